/- Merged texts: AscDec AscRDec MedRef2 MedRef3 AccSpec RnkSpec RnkLvl RnkLev. -/
import Derived.Test.YtgmfmlcpogbolaaM01
import Derived.Test.YtgmfmlcpogbolaaM02
import Derived.Test.YtgmfmlcpogbolaaM03
import Derived.Test.YtgmfmlcpogbolaaM04
import Derived.Test.YtgmfmlcpogbolaaM06
import Derived.Deep.AppendLies
import Derived.Laws.AppendOwnNone
import Derived.Lib.AppendZerosOnto
import Derived.Lib.Overlaps
import Derived.OwnWalk
set_option linter.unusedVariables false
set_option linter.unusedSimpArgs false
set_option maxRecDepth 100000
namespace Go.Proofs.Ytgmfmlcpogbolaa.Asc
section
open Go.RowKit
def InI64 (n : Int) : Prop := -9223372036854775808 ≤ n ∧ n ≤ 9223372036854775807
end
section
open Go.RowKit
/-- how far the digits have come -/
def RDec (N m : Nat) (acc : List UInt8) : Prop := DecAt N m acc ∨ (m = 0 ∧ 1 ≤ acc.length ∧ acc.length ≤ 19 ∧ decF 20 N [] = acc)
theorem RDec.next {N m : Nat} {acc : List UInt8} (h : DecAt N m acc) : RDec N (m / 10) (digB m :: acc) := by
  by_cases hm : m / 10 = 0
  · have := h.len
    exact .inr ⟨hm, by simp, by simp; omega, h.fin hm⟩
  · exact .inl (h.step hm)
theorem RDec.step {N m : Nat} {acc : List UInt8} (h : DecAt N m acc) : Hid (RDec N (m / 10) (digB m :: acc)) := Lib.hid (RDec.next h)
end
section
open Go.RowKit
theorem rRange_is {s : ByteArray} {a b : ByteArray} {L : List F} {q : Bool} {w : World} (hs : s.size ≤ 65000) (h : Box (ofM (rangeL s.data.toList) = (a, b, L) ∧ (rangeL s.data.toList).isSome = q)) :
    Calls Try.prog 19 #[.string s] w fun e w' => ∃ p cap, e = .returned (.tuple #[.agg #[.string a, .string b, .slice p L.length cap], .bool q]) ∧ OwnP w' w.heap.size (.slice p L.length cap) L ∧ Below w.heap.size w w' :=
  (rRange_any s w hs).mono fun e w' ⟨v, h1, h2, h3⟩ => by
    rw [h.out.1] at h1 h2
    rw [h.out.2] at h1
    obtain ⟨p, cap, rfl, _, _⟩ := h2.fs
    exact ⟨p, cap, h1, h2, h3⟩
theorem media_cases (l : List UInt8) : mediaL l = if (rangeL l).isSome = true then (if (ofM (rangeL l)).1 = star ∨ (ofM (rangeL l)).2.1 = star then none else some (ofM (rangeL l))) else none := by
  unfold mediaL ofM
  cases h : rangeL l with
  | none => rfl
  | some x => obtain ⟨a, b, L⟩ := x; rfl
theorem star_eq {x : ByteArray} {b : Bool} (h : (x.toList == [42]) = b) : x = star ↔ b = true := by
  rw [← star_is h]
  constructor
  · intro e; rw [e]; rfl
  · intro e; rw [bs_of x, e]; rfl
set_option maxHeartbeats 1000000 in
theorem rMedia_any (s : ByteArray) (w : World) (hs : s.size ≤ 65000) :
    Calls Try.prog 20 #[.string s] w fun e w' => medW w w' (mediaL s.data.toList) e := by
  obtain ⟨⟨a, b, L⟩, hM⟩ : ∃ m, ofM (rangeL s.data.toList) = m := ⟨_, rfl⟩
  obtain ⟨q, hq⟩ : ∃ q, (rangeL s.data.toList).isSome = q := ⟨_, rfl⟩
  have H := box (And.intro hM hq)
  have HC := media_cases s.data.toList
  rw [hM, hq] at HC
  clear hM hq
  rcases q with _ | _
  · have HR : Box (mediaL s.data.toList = none) := box (by rw [HC]; rfl)
    clear HC
    go_enter Try.func20, Try.ntmps20
    go_wp2_with fail
    refine (rRange_is hs H).mono ?_; rintro e w1 ⟨p, cap, rfl, hO1, hb1⟩
    have C1 := box (((C3.new (.string ⟨#[]⟩) (.string ⟨#[]⟩) (.slice none 0 0) w 45).next hb1).next (below_new w1 (.cells #[.string a, .string b, .slice p L.length cap] 45)))
    have B1 := box (((below_new w _).trans (hb1.mono (below_new w _).size)).alloc ((below_new w _).trans (hb1.mono (below_new w _).size)).size (.cells #[.string a, .string b, .slice p L.length cap] 45))
    clear hO1 hb1
    obtain ⟨⟨r0, r1, r2⟩, ⟨f0, f1, f2⟩⟩ := C1.out
    go_wp2
    (try simp only [Exit.inBlock, Exit.then])
    refine bodyPost_ret (v := .tuple #[.agg #[.string ⟨#[]⟩, .string ⟨#[]⟩, .slice none 0 0], .bool false]) (by rw [results_cell_tmp rfl]; go_simp) rfl ?_
    exact medW_none HR (below3 B1.out (Nat.le_refl _) _ _ _)
  · rcases h1 : (a.toList == [42]) with _ | _
    · rcases h2 : (b.toList == [42]) with _ | _
      · have HR : Box (mediaL s.data.toList = some (a, b, L)) := box (by
          rw [HC, if_pos rfl, if_neg (by
            rintro (e | e)
            · have := (star_eq h1).mp e; simp at this
            · have := (star_eq h2).mp e; simp at this)])
        clear HC
        go_enter Try.func20, Try.ntmps20
        go_wp2_with fail
        refine (rRange_is hs H).mono ?_; rintro e w1 ⟨p, cap, rfl, hO1, hb1⟩
        have C1 := box (((C3.new (.string ⟨#[]⟩) (.string ⟨#[]⟩) (.slice none 0 0) w 45).next hb1).next (below_new w1 (.cells #[.string a, .string b, .slice p L.length cap] 45)))
        have B1 := box (((below_new w _).trans (hb1.mono (below_new w _).size)).alloc ((below_new w _).trans (hb1.mono (below_new w _).size)).size (.cells #[.string a, .string b, .slice p L.length cap] 45))
        have O1 := box (own_below hO1 (below_new w1 (.cells #[.string a, .string b, .slice p L.length cap] 45)))
        clear hO1 hb1
        obtain ⟨⟨r0, r1, r2⟩, ⟨f0, f1, f2⟩⟩ := C1.out
        go_wp2
        (try simp only [Exit.inBlock, Exit.then])
        refine bodyPost_ret (v := .tuple #[.agg #[.string a, .string b, .slice p L.length cap], .bool true]) (by rw [results_cell_tmp rfl]; go_simp) rfl ?_
        exact medW_some HR (own_le (own_only O1.out (only3 _ _ _ _ _) (by simp)) (by simp)) (below3 B1.out (Nat.le_refl _) _ _ _)
      · have HR : Box (mediaL s.data.toList = none) := box (by rw [HC, if_pos rfl, if_pos (.inr ((star_eq h2).mpr rfl))])
        clear HC
        go_enter Try.func20, Try.ntmps20
        go_wp2_with fail
        refine (rRange_is hs H).mono ?_; rintro e w1 ⟨p, cap, rfl, hO1, hb1⟩
        have C1 := box (((C3.new (.string ⟨#[]⟩) (.string ⟨#[]⟩) (.slice none 0 0) w 45).next hb1).next (below_new w1 (.cells #[.string a, .string b, .slice p L.length cap] 45)))
        have B1 := box (((below_new w _).trans (hb1.mono (below_new w _).size)).alloc ((below_new w _).trans (hb1.mono (below_new w _).size)).size (.cells #[.string a, .string b, .slice p L.length cap] 45))
        have O1 := box (own_below hO1 (below_new w1 (.cells #[.string a, .string b, .slice p L.length cap] 45)))
        clear hO1 hb1
        obtain ⟨⟨r0, r1, r2⟩, ⟨f0, f1, f2⟩⟩ := C1.out
        go_wp2
        (try simp only [Exit.inBlock, Exit.then])
        refine bodyPost_ret (v := .tuple #[.agg #[.string ⟨#[]⟩, .string ⟨#[]⟩, .slice none 0 0], .bool false]) (by rw [results_cell_tmp rfl]; go_simp) rfl ?_
        exact medW_none HR (below3 B1.out (Nat.le_refl _) _ _ _)
    · have HR : Box (mediaL s.data.toList = none) := box (by rw [HC, if_pos rfl, if_pos (.inl ((star_eq h1).mpr rfl))])
      clear HC
      go_enter Try.func20, Try.ntmps20
      go_wp2_with fail
      refine (rRange_is hs H).mono ?_; rintro e w1 ⟨p, cap, rfl, hO1, hb1⟩
      have C1 := box (((C3.new (.string ⟨#[]⟩) (.string ⟨#[]⟩) (.slice none 0 0) w 45).next hb1).next (below_new w1 (.cells #[.string a, .string b, .slice p L.length cap] 45)))
      have B1 := box (((below_new w _).trans (hb1.mono (below_new w _).size)).alloc ((below_new w _).trans (hb1.mono (below_new w _).size)).size (.cells #[.string a, .string b, .slice p L.length cap] 45))
      have O1 := box (own_below hO1 (below_new w1 (.cells #[.string a, .string b, .slice p L.length cap] 45)))
      clear hO1 hb1
      obtain ⟨⟨r0, r1, r2⟩, ⟨f0, f1, f2⟩⟩ := C1.out
      go_wp2
      (try simp only [Exit.inBlock, Exit.then])
      refine bodyPost_ret (v := .tuple #[.agg #[.string ⟨#[]⟩, .string ⟨#[]⟩, .slice none 0 0], .bool false]) (by rw [results_cell_tmp rfl]; go_simp) rfl ?_
      exact medW_none HR (below3 B1.out (Nat.le_refl _) _ _ _)
end
section
open Go.RowKit
def prmOk (p q : F) : Bool := p.1.toList == q.1.toList && foldL p.2.data.toList q.2.data.toList
def prmIn (p : F) (L : List F) : Bool := L.any (prmOk p)
def matchI (r t : M) : Int :=
  if (r.1.toList == [42] && r.2.1.toList == [42]) = true then 0
  else if (r.1.toList == t.1.toList) = false then -1
  else if (r.2.1.toList == [42]) = true then 1
  else if (r.2.1.toList == t.2.1.toList) = false then -1
  else if (r.2.2.all fun p => prmIn p t.2.2) = true then 2 + (r.2.2.length : Int) else -1
theorem anyM_more {α : Type} {f : α → Bool} {L : List α} {k : Nat} (h : k < L.length) : (L.take (k + 1)).any f = ((L.take k).any f || f L[k]) := by
  rw [List.take_add_one, List.getElem?_eq_getElem h, List.any_append]; simp
theorem allM_more {α : Type} {f : α → Bool} {L : List α} {k : Nat} (h : k < L.length) (ha : (L.take k).all f = true) (hf : f L[k] = true) : (L.take (k + 1)).all f = true := by
  rw [List.take_add_one, List.getElem?_eq_getElem h, List.all_append, ha]; simp [hf]
theorem allM_not {α : Type} {f : α → Bool} {L : List α} {k : Nat} (h : k < L.length) (hf : f L[k] = false) : L.all f = false := by
  rw [List.all_eq_false]; exact ⟨L[k], List.getElem_mem h, by simp [hf]⟩
theorem rFold10_is {a b : ByteArray} {q : Bool} {w : World} (ha : a.size ≤ 4294967296) (hb : b.size ≤ 4294967296) (h : Box (foldL a.data.toList b.data.toList = q)) :
    Calls Try.prog 16 #[.string a, .string b] w fun e w' => e = .returned (.bool q) ∧ Below w.heap.size w w' :=
  (rFold_any a b w ha hb).mono fun e w' ⟨h1, h2⟩ => ⟨by rw [h1, h.out], h2⟩
def MatO (K L : List F) (W : World) (i : Value) (wr : World) : Prop := ∃ k : Nat, i = .int .i64 k ∧ k ≤ K.length ∧ ((K.take k).all fun p => prmIn p L) = true ∧ Below W.heap.size W wr
def MatI (p : F) (L : List F) (W : World) (f i : Value) (wr : World) : Prop := ∃ k : Nat, i = .int .i64 k ∧ k ≤ L.length ∧ f = .bool ((L.take k).any (prmOk p)) ∧ Below W.heap.size W wr
/-- the ways that end before the parameters are looked at -/
theorem rMatch_early (a b c d : ByteArray) (p q : Option Addr) (cp cq : Nat) (K L : List F) (w : World) (v : Int) (q1 q2 q3 q4 : Bool) (h1 : (a.toList == [42]) = q1) (h2 : (b.toList == [42]) = q2) (h3 : (a.toList == c.toList) = q3) (h4 : (b.toList == d.toList) = q4)
    (hq : (q1 = true ∧ q2 = true) ∨ q3 = false ∨ q2 = true ∨ q4 = false) :
    Calls Try.prog 21 #[.agg #[.string a, .string b, .slice p K.length cp], .agg #[.string c, .string d, .slice q L.length cq]] w fun e w' => e = .returned (.int .i64 (matchI (a, b, K) (c, d, L))) ∧ Below w.heap.size w w' := by
  have B2 : Box (Below w.heap.size w ((w.alloc (.cells #[.string a, .string b, .slice p K.length cp] 45)).alloc (.cells #[.string c, .string d, .slice q L.length cq] 45))) := box ((below_new w _).alloc (below_new w _).size _)
  obtain ⟨x, hx⟩ : ∃ x, matchI (a, b, K) (c, d, L) = x := ⟨_, rfl⟩
  have HX := box hx
  unfold matchI at hx
  simp only [h1, h2, h3, h4] at hx
  rw [HX.out]
  clear HX
  cases q1 <;> cases q2 <;> cases q3 <;> cases q4
  all_goals first
    | (exfalso; simp at hq; done)
    | (simp at hx
       subst hx
       clear hq
       go_enter Try.func21, Try.ntmps21
       go_wp2
       go_ret
       exact ⟨rfl, B2.out⟩)
set_option maxHeartbeats 4000000 in
theorem rMatch_late (a b c d : ByteArray) (p q : Option Addr) (cp cq : Nat) (K L : List F) (w : World) (hk : K.length ≤ 65536) (hl : L.length ≤ 65536)
    (hzK : Box (∀ i (hi : i < K.length), K[i].1.size ≤ 65536 ∧ K[i].2.size ≤ 65536)) (hzL : Box (∀ i (hi : i < L.length), L[i].1.size ≤ 65536 ∧ L[i].2.size ≤ 65536)) (hK : Box (Fs w p K)) (hL : Box (Fs w q L))
    (q1 : Bool) (h1 : (a.toList == [42]) = q1) (h2 : (b.toList == [42]) = false) (h3 : (a.toList == c.toList) = true) (h4 : (b.toList == d.toList) = true) :
    Calls Try.prog 21 #[.agg #[.string a, .string b, .slice p K.length cp], .agg #[.string c, .string d, .slice q L.length cq]] w fun e w' => e = .returned (.int .i64 (matchI (a, b, K) (c, d, L))) ∧ Below w.heap.size w w' := by
  obtain ⟨W, hW⟩ : ∃ W, (w.alloc (.cells #[.string a, .string b, .slice p K.length cp] 45)).alloc (.cells #[.string c, .string d, .slice q L.length cq] 45) = W := ⟨_, rfl⟩
  have B2 : Box (Below w.heap.size w W) := box (by rw [← hW]; exact (below_new w _).alloc (below_new w _).size _)
  have G0 : Box (W.cell? ⟨w.heap.size, 2, none⟩ = some (.slice p K.length cp)) := box (by
    rw [← hW, (below_new _ _).cell (by simp), World.cell?_alloc_mark]; rfl)
  have G1 : Box (W.cell? ⟨w.heap.size + 1, 2, none⟩ = some (.slice q L.length cq)) := box (by
    rw [← hW, show w.heap.size + 1 = (w.alloc (.cells #[.string a, .string b, .slice p K.length cp] 45)).heap.size from by simp, World.cell?_alloc_mark]; rfl)
  have FK := box (hK.out.below B2.out)
  have FL := box (hL.out.below B2.out)
  have HV : Box (matchI (a, b, K) (c, d, L) = if (K.all fun p => prmIn p L) = true then 2 + (K.length : Int) else -1) := box (by
    unfold matchI; simp [h2, h3, h4])
  rw [HV.out]
  obtain ⟨z, hz⟩ : ∃ z : Int, (if (K.all fun p => prmIn p L) = true then 2 + (K.length : Int) else -1) = z := ⟨_, rfl⟩
  rw [hz]
  have HZ := box hz
  have HWB := box hW
  clear HV hW hz
  rcases q1 with _ | _
  all_goals
    go_enter Try.func21, Try.ntmps21
    go_wp2
    rw [HWB.out]
    go_loopw [5] (fun i wr => MatO K L W i wr) (fun i _ => K.length - (intOf i).toNat)
    case atStart => exact ⟨0, rfl, Nat.zero_le _, rfl, Below.refl _ _⟩
    case round =>
      obtain ⟨wo, rfl⟩ : ∃ wo, wo = wr := ⟨_, rfl⟩
      obtain ⟨k, rfl, hk2, hall, hbel⟩ := hrel
      have HA := box hall
      have BL := box hbel
      have g0 := (hbel.cell (p := ⟨w.heap.size, 2, none⟩) (cell_lt G0.out)).trans G0.out
      have g1 := (hbel.cell (p := ⟨w.heap.size + 1, 2, none⟩) (cell_lt G1.out)).trans G1.out
      have FK1 := box (FK.out.below hbel)
      clear hall hbel
      by_cases hlt : k < K.length
      · obtain ⟨gk, ok, rfl, c0, c1⟩ := FK1.out k hlt
        obtain ⟨zk1, zk2⟩ := hzK.out k hlt
        have FL1 := box (FL.out.below BL.out)
        have hBW := BL.out.size
        go_wp2
        go_loopw [6, 7] (fun f i wi => MatI K[k] L wo f i wi) (fun _ i _ => L.length - (intOf i).toNat)
        case atStart => exact ⟨0, rfl, Nat.zero_le _, rfl, Below.refl _ _⟩
        case round =>
          obtain ⟨j, rfl, hj2, rfl, hbel⟩ := hrel
          obtain ⟨fb, hfb⟩ : ∃ fb, (L.take j).any (prmOk K[k]) = fb := ⟨_, rfl⟩
          rw [hfb]
          have HFB := box hfb
          have BI := box hbel
          have m0 := (hbel.cell (p := ⟨w.heap.size, 2, none⟩) (cell_lt g0)).trans g0
          have m1 := (hbel.cell (p := ⟨w.heap.size + 1, 2, none⟩) (cell_lt g1)).trans g1
          have n0 := (hbel.cell (p := ⟨gk, ok + k * 2, none⟩) (cell_lt c0)).trans c0
          have n1 := (hbel.cell (p := ⟨gk, ok + k * 2 + 1, none⟩) (cell_lt c1)).trans c1
          have FL2 := box (FL1.out.below hbel)
          have hbs := hbel.size
          clear hbel hfb
          by_cases hjl : j < L.length
          · obtain ⟨gl, ol, rfl, e0, e1⟩ := FL2.out j hjl
            obtain ⟨zl1, zl2⟩ := hzL.out j hjl
            rcases fb with _ | _
            · rcases hnm : (K[k].1.toList == L[j].1.toList) with _ | _
              · have HN : Box ((L.take (j + 1)).any (prmOk K[k]) = false) := box (by rw [anyM_more hjl, HFB.out]; unfold prmOk; rw [hnm]; rfl)
                go_wp2
                go_quiet (fail)
                go_wp2
                go_roundw
                case rel => exact ⟨j + 1, by go_num, by omega, by rw [HN.out], BI.out.trans ((below_drewN _ _).mono hbs)⟩
                case measure => simp [intOf]; omega
              · obtain ⟨x, hx⟩ : ∃ x, foldL K[k].2.data.toList L[j].2.data.toList = x := ⟨_, rfl⟩
                have HX := box hx
                have HN : Box ((L.take (j + 1)).any (prmOk K[k]) = x) := box (by rw [anyM_more hjl, HFB.out]; unfold prmOk; rw [hnm, hx]; rfl)
                have y1 : K[k].2.size ≤ 4294967296 := by omega
                have y2 : L[j].2.size ≤ 4294967296 := by omega
                clear hx
                go_wp2
                go_region_held3 (fun w' => w'.cell? ⟨w.heap.size, 2, none⟩ = some (.slice (some ⟨gk, ok, none⟩) K.length cp) ∧ w'.cell? ⟨w.heap.size + 1, 2, none⟩ = some (.slice (some ⟨gl, ol, none⟩) L.length cq) ∧ w'.cell? ⟨gk, ok + k * 2, none⟩ = some (.string K[k].1) ∧ w'.cell? ⟨gk, ok + k * 2 + 1, none⟩ = some (.string K[k].2) ∧ w'.cell? ⟨gl, ol + j * 2, none⟩ = some (.string L[j].1) ∧ w'.cell? ⟨gl, ol + j * 2 + 1, none⟩ = some (.string L[j].2))
                  (first | exact ⟨m0, m1, n0, n1, e0, e1⟩ | (exact ⟨(hb3.cell (p := ⟨w.heap.size, 2, none⟩) (cell_lt m0)).trans m0, (hb3.cell (p := ⟨w.heap.size + 1, 2, none⟩) (cell_lt m1)).trans m1, (hb3.cell (p := ⟨gk, ok + k * 2, none⟩) (cell_lt n0)).trans n0, (hb3.cell (p := ⟨gk, ok + k * 2 + 1, none⟩) (cell_lt n1)).trans n1, (hb3.cell (p := ⟨gl, ol + j * 2, none⟩) (cell_lt e0)).trans e0, (hb3.cell (p := ⟨gl, ol + j * 2 + 1, none⟩) (cell_lt e1)).trans e1⟩))
                  (first | (go_at_call 16; refine (rFold10_is y1 y2 HX).mono ?_; rintro e w3 ⟨rfl, hb3⟩))
                all_goals
                  go_wp2
                  go_roundw
                  case rel => exact ⟨j + 1, by go_num, by omega, by rw [HN.out], BI.out.trans ((Below.refl _ _).drew.trans (hb3.mono hbs))⟩
                  case measure => simp [intOf]; omega
            · have HN : Box ((L.take (j + 1)).any (prmOk K[k]) = true) := box (by rw [anyM_more hjl, HFB.out]; rfl)
              go_wp2
              go_quiet (fail)
              go_wp2
              go_roundw
              case rel => exact ⟨j + 1, by go_num, by omega, by rw [HN.out], BI.out.trans ((below_drewN _ _).mono hbs)⟩
              case measure => simp [intOf]; omega
          · have HJ : Box (prmIn K[k] L = fb) := box (by
              have := HFB.out
              rwa [List.take_of_length_le (by omega)] at this)
            rcases fb with _ | _
            · have HZ2 : Box ((-1 : Int) = z) := box (by rw [← HZ.out, if_neg (by rw [allM_not hlt HJ.out]; simp)])
              go_wp2
              go_ret
              exact ⟨ret_int HZ2.out, B2.out.trans ((BL.out.trans (BI.out.mono hBW)).mono B2.out.size)⟩
            · have HA2 := box (allM_more hlt HA.out HJ.out)
              go_wp2
              go_roundw
              case rel => exact ⟨k + 1, by go_num, by omega, HA2.out, BL.out.trans (BI.out.mono hBW)⟩
              case measure => simp [intOf]; omega
      · have HE : Box ((K.all fun p => prmIn p L) = true) := box (by
          have := HA.out
          rwa [List.take_of_length_le (by omega)] at this)
        have HZ2 : Box ((2 : Int) + (K.length : Int) = z) := box (by rw [← HZ.out, if_pos HE.out])
        go_wp2
        go_ret
        exact ⟨ret_int HZ2.out, B2.out.trans (BL.out.mono B2.out.size)⟩
end
section
/-- specificity -/
def matchP (k : Int) (r v : List UInt8) : Int :=
  if k = 1 then (match rangeL r, mediaL v with
    | some a, some b => matchI a b
    | _, _ => -1)
  else if k = 2 then matchT r v
  else if k = 3 ∨ k = 4 then (if (tokL r && tokL v && decide (v ≠ [42])) = true then matchC k r v else -1)
  else -1
end
section
def idenL : List UInt8 := [105, 100, 101, 110, 116, 105, 116, 121]
def qual0 (k : Int) (v : List UInt8) : Int := if k = 4 ∧ foldL v idenL = true then 1 else 0
def stepQ14 (k : Int) (v : List UInt8) (st : Int × Int) (p : ByteArray × Int) : Int × Int := if st.1 < matchP k p.1.data.toList v then (matchP k p.1.data.toList v, p.2) else st
def bestQ (k : Int) (v : List UInt8) (L : List (ByteArray × Int)) (st : Int × Int) : Int × Int := L.foldl (stepQ14 k v) st
def qualR (k : Int) (L : List (ByteArray × Int)) (present : Bool) (v : List UInt8) : Int := if present = true then (bestQ k v L (-1, qual0 k v)).2 else 1000
theorem best_next {k : Int} {v : List UInt8} {L : List (ByteArray × Int)} {st : Int × Int} {j : Nat} (h : j < L.length) : bestQ k v (L.take (j + 1)) st = stepQ14 k v (bestQ k v (L.take j) st) L[j] := by
  unfold bestQ
  rw [List.take_succ_eq_append_getElem h, List.foldl_append]; rfl
theorem best_app {k : Int} {v : List UInt8} {L M : List (ByteArray × Int)} {st : Int × Int} : bestQ k v (L ++ M) st = bestQ k v M (bestQ k v L st) := by unfold bestQ; rw [List.foldl_append]
theorem best_lt {k s : Int} {v : List UInt8} : ∀ {L : List (ByteArray × Int)} {st : Int × Int}, (∀ p ∈ L, matchP k p.1.data.toList v < s) → st.1 < s → (bestQ k v L st).1 < s
  | [], st, _, h => h
  | p :: L, st, hL, h => by
    show (bestQ k v L (stepQ14 k v st p)).1 < s
    refine best_lt (fun q hq => hL q (by simp [hq])) ?_
    unfold stepQ14
    split
    · exact hL p (by simp)
    · exact h
theorem best_keep {k : Int} {v : List UInt8} : ∀ {L : List (ByteArray × Int)} {st : Int × Int}, (∀ p ∈ L, matchP k p.1.data.toList v ≤ st.1) → bestQ k v L st = st
  | [], st, _ => rfl
  | p :: L, st, h => by
    have e : stepQ14 k v st p = st := by unfold stepQ14; rw [if_neg (by have := h p (by simp); omega)]
    show bestQ k v L (stepQ14 k v st p) = st
    rw [e]
    exact best_keep (fun q hq => h q (by simp [hq]))
/-- the greatest specificity -/
theorem best_is {k : Int} {v : List UInt8} : ∀ (L : List (ByteArray × Int)) (st : Int × Int), ((∀ p ∈ L, matchP k p.1.data.toList v ≤ st.1) ∧ bestQ k v L st = st) ∨
    ∃ p ∈ L, st.1 < matchP k p.1.data.toList v ∧ bestQ k v L st = (matchP k p.1.data.toList v, p.2) ∧ ∀ q ∈ L, matchP k q.1.data.toList v ≤ matchP k p.1.data.toList v
  | [], st => .inl ⟨fun p hp => (by cases hp), rfl⟩
  | p :: L, st => by
    have ih := best_is (k := k) (v := v) L (stepQ14 k v st p)
    have e : bestQ k v (p :: L) st = bestQ k v L (stepQ14 k v st p) := rfl
    rw [e]
    by_cases h : st.1 < matchP k p.1.data.toList v
    · have es : stepQ14 k v st p = (matchP k p.1.data.toList v, p.2) := by unfold stepQ14; rw [if_pos h]
      rw [es] at ih ⊢
      rcases ih with ⟨h1, h2⟩ | ⟨q, hq, h1, h2, h3⟩
      · refine .inr ⟨p, by simp, h, h2, fun q hq => ?_⟩
        rcases List.mem_cons.1 hq with rfl | hq
        · exact Int.le_refl _
        · exact h1 q hq
      · refine .inr ⟨q, by simp [hq], Int.lt_trans h h1, h2, fun r hr => ?_⟩
        rcases List.mem_cons.1 hr with rfl | hr
        · exact Int.le_of_lt h1
        · exact h3 r hr
    · have es : stepQ14 k v st p = st := by unfold stepQ14; rw [if_neg h]
      rw [es] at ih ⊢
      rcases ih with ⟨h1, h2⟩ | ⟨q, hq, h1, h2, h3⟩
      · refine .inl ⟨fun q hq => ?_, h2⟩
        rcases List.mem_cons.1 hq with rfl | hq
        · omega
        · exact h1 q hq
      · refine .inr ⟨q, by simp [hq], h1, h2, fun r hr => ?_⟩
        rcases List.mem_cons.1 hr with rfl | hr
        · omega
        · exact h3 r hr
theorem qual_excl1 {k s : Int} {v : ByteArray} {L : List (ByteArray × Int)} (hs : matchP k v.data.toList v.data.toList = s) (h0 : 0 ≤ s) (hL : ∀ p ∈ L, matchP k p.1.data.toList v.data.toList < s) : qualR k (L ++ [(v, 0)]) true v.data.toList = 0 := by
  unfold qualR
  rw [if_pos rfl, best_app]
  have h1 := best_lt (st := (-1, qual0 k v.data.toList)) hL (by show (-1 : Int) < s; omega)
  show (stepQ14 k v.data.toList _ (v, 0)).2 = 0
  unfold stepQ14
  rw [if_pos (by rw [hs]; exact h1)]
theorem qual_excl2 {k s : Int} {v : ByteArray} {L : List (ByteArray × Int)} (hs : matchP k v.data.toList v.data.toList = s) (h0 : 0 ≤ s) (hL : ∀ p ∈ L, matchP k p.1.data.toList v.data.toList < s) : qualR k ((v, 0) :: L) true v.data.toList = 0 := by
  unfold qualR
  rw [if_pos rfl]
  show (bestQ k v.data.toList L (stepQ14 k v.data.toList (-1, qual0 k v.data.toList) (v, 0))).2 = 0
  have e : stepQ14 k v.data.toList (-1, qual0 k v.data.toList) (v, 0) = (s, 0) := by unfold stepQ14; rw [if_pos (by rw [hs]; show (-1 : Int) < s; omega), hs]
  rw [e, best_keep (fun p hp => Int.le_of_lt (hL p hp))]
/-- two lists of the same preferences, of which no two match with the same specificity -/
theorem qual_same {k : Int} {v : List UInt8} {L M : List (ByteArray × Int)} (h1 : ∀ p ∈ L, p ∈ M) (h2 : ∀ p ∈ M, p ∈ L)
    (hd : ∀ x (hx : x < L.length) y (hy : y < L.length), x ≠ y → 0 ≤ matchP k L[x].1.data.toList v → matchP k L[x].1.data.toList v ≠ matchP k L[y].1.data.toList v) : qualR k M true v = qualR k L true v := by
  unfold qualR
  rw [if_pos rfl, if_pos rfl]
  rcases best_is (k := k) (v := v) L (-1, qual0 k v) with ⟨a1, a2⟩ | ⟨p, hp, a1, a2, a3⟩
  · rcases best_is (k := k) (v := v) M (-1, qual0 k v) with ⟨b1, b2⟩ | ⟨q, hq, b1, b2, b3⟩
    · rw [a2, b2]
    · have := a1 q (h2 q hq); omega
  · rcases best_is (k := k) (v := v) M (-1, qual0 k v) with ⟨b1, b2⟩ | ⟨q, hq, b1, b2, b3⟩
    · have := b1 p (h1 p hp); omega
    · have e1 := a3 q (h2 q hq)
      have e2 := b3 p (h1 p hp)
      have e : matchP k p.1.data.toList v = matchP k q.1.data.toList v := by omega
      have hpq : p = q := by
        obtain ⟨x, hx, rfl⟩ := List.getElem_of_mem hp
        obtain ⟨y, hy, rfl⟩ := List.getElem_of_mem (h2 q hq)
        by_cases hxy : x = y
        · subst hxy; rfl
        · exact absurd e (hd x hx y hy hxy (by have : (-1 : Int) < matchP k L[x].1.data.toList v := a1; omega))
      rw [a2, b2, hpq]
section
variable (q : ByteArray → Int)
def insR (x : ByteArray) : List ByteArray → List ByteArray
  | [] => [x]
  | y :: ys => if q y < q x then x :: y :: ys else y :: insR x ys
def stepR (acc : List ByteArray) (v : ByteArray) : List ByteArray := if 0 < q v then insR q v acc else acc
def rankQ (V : List ByteArray) : List ByteArray := V.foldl (stepR q) []
def DescR : List ByteArray → Prop
  | [] => True
  | y :: ys => (∀ z ∈ ys, q z ≤ q y) ∧ DescR ys
/-- the place of a value: the better ones, and the equally good ones ahead of it -/
def aheadR (V : List ByteArray) (i k : Nat) : Bool := decide (q (V.getD i ⟨#[]⟩) < q (V.getD k ⟨#[]⟩)) || (decide (q (V.getD k ⟨#[]⟩) = q (V.getD i ⟨#[]⟩)) && decide (k < i))
def atR (V : List ByteArray) (i : Nat) : Nat := (List.range V.length).countP fun k => aheadR q V i k
end
variable {q : ByteArray → Int}
theorem ins_mem {x z : ByteArray} : ∀ {l : List ByteArray}, z ∈ insR q x l → z = x ∨ z ∈ l
  | [], h => by simp [insR] at h; exact .inl h
  | y :: ys, h => by
    unfold insR at h
    split at h
    · rcases List.mem_cons.1 h with h | h
      · exact .inl h
      · exact .inr h
    · rcases List.mem_cons.1 h with h | h
      · exact .inr (by simp [h])
      · rcases ins_mem h with h | h
        · exact .inl h
        · exact .inr (by simp [h])
theorem ins_desc {x : ByteArray} : ∀ {l : List ByteArray}, DescR q l → DescR q (insR q x l)
  | [], _ => ⟨fun z hz => (by cases hz), trivial⟩
  | y :: ys, h => by
    unfold insR
    split
    · rename_i hlt
      refine ⟨fun z hz => ?_, h⟩
      rcases List.mem_cons.1 hz with rfl | hz
      · omega
      · have := h.1 z hz; omega
    · rename_i hge
      refine ⟨fun z hz => ?_, ins_desc h.2⟩
      rcases ins_mem hz with rfl | hz
      · omega
      · exact h.1 z hz
/-- how many of a list come ahead of x -/
def aheadN (q : ByteArray → Int) (x : ByteArray) (l : List ByteArray) : Nat := l.countP fun y => decide (q x ≤ q y)
theorem ins_at {x : ByteArray} : ∀ {l : List ByteArray}, DescR q l → ∀ j, (insR q x l)[j]? = if j < aheadN q x l then l[j]? else if j = aheadN q x l then some x else l[j - 1]?
  | [], _, j => by
    unfold insR aheadN
    match j with
    | 0 => rfl
    | j + 1 => simp
  | y :: ys, h, j => by
    unfold insR
    by_cases hlt : q y < q x
    · have hz : aheadN q x (y :: ys) = 0 := by
        unfold aheadN
        rw [List.countP_eq_zero]
        intro z hz
        rcases List.mem_cons.1 hz with rfl | hz
        · simp; omega
        · have := h.1 z hz; simp; omega
      rw [if_pos hlt, hz, if_neg (by omega)]
      match j with
      | 0 => rfl
      | j + 1 => rw [if_neg (by omega)]; rfl
    · have hz : aheadN q x (y :: ys) = aheadN q x ys + 1 := by
        unfold aheadN
        rw [List.countP_cons, if_pos (by simp; omega)]
      rw [if_neg hlt, hz]
      match j with
      | 0 => rw [if_pos (by omega)]; rfl
      | j + 1 =>
        rw [List.getElem?_cons_succ, ins_at h.2 j]
        by_cases h1 : j < aheadN q x ys
        · rw [if_pos h1, if_pos (show j + 1 < aheadN q x ys + 1 by omega)]; rfl
        · rw [if_neg h1, if_neg (show ¬ j + 1 < aheadN q x ys + 1 by omega)]
          by_cases h2 : j = aheadN q x ys
          · rw [if_pos h2, if_pos (show j + 1 = aheadN q x ys + 1 by omega)]
          · rw [if_neg h2, if_neg (show ¬ j + 1 = aheadN q x ys + 1 by omega)]
            obtain ⟨m, rfl⟩ : ∃ m, j = m + 1 := ⟨j - 1, by omega⟩
            rfl
/-- in a list in order: the values ahead are those at the front -/
theorem ahead_front {x : ByteArray} : ∀ {l : List ByteArray}, DescR q l → ∀ j (hj : j < l.length), j < aheadN q x l ↔ q x ≤ q l[j]
  | y :: ys, h, j, hj => by
    by_cases hlt : q y < q x
    · have hz : aheadN q x (y :: ys) = 0 := by
        unfold aheadN
        rw [List.countP_eq_zero]
        intro z hz
        rcases List.mem_cons.1 hz with rfl | hz
        · simp; omega
        · have := h.1 z hz; simp; omega
      rw [hz]
      have hle : q (y :: ys)[j] ≤ q y := by
        match j, hj with
        | 0, _ => exact Int.le_refl _
        | j + 1, hj => exact h.1 _ (List.getElem_mem _)
      constructor
      · omega
      · omega
    · have hz : aheadN q x (y :: ys) = aheadN q x ys + 1 := by
        unfold aheadN
        rw [List.countP_cons, if_pos (by simp; omega)]
      rw [hz]
      match j, hj with
      | 0, _ => exact ⟨fun _ => by show q x ≤ q y; omega, fun _ => by omega⟩
      | j + 1, hj =>
        have ih := ahead_front (x := x) h.2 j (by simpa using hj)
        constructor
        · intro hh; exact ih.1 (by omega)
        · intro hh; have := ih.2 hh; omega
theorem rank_snoc (W : List ByteArray) (x : ByteArray) : rankQ q (W ++ [x]) = stepR q (rankQ q W) x := by unfold rankQ; rw [List.foldl_append]; rfl
theorem ins_count {p : ByteArray → Bool} {x : ByteArray} : ∀ (l : List ByteArray), (insR q x l).countP p = l.countP p + (if p x = true then 1 else 0)
  | [] => by unfold insR; rw [List.countP_cons, List.countP_nil]
  | y :: ys => by
    unfold insR
    split
    · rw [List.countP_cons]
    · rw [List.countP_cons, List.countP_cons, ins_count ys]; omega
theorem getD_snoc {W : List ByteArray} {x : ByteArray} {k : Nat} (h : k < W.length) : (W ++ [x]).getD k ⟨#[]⟩ = W.getD k ⟨#[]⟩ := by
  rw [List.getD_eq_getElem?_getD, List.getD_eq_getElem?_getD, List.getElem?_append_left h]
theorem getD_last {W : List ByteArray} {x : ByteArray} : (W ++ [x]).getD W.length ⟨#[]⟩ = x := by
  rw [List.getD_eq_getElem?_getD, List.getElem?_append_right (Nat.le_refl _)]; simp
theorem at_snoc {W : List ByteArray} {x : ByteArray} {i : Nat} (h : i < W.length) : atR q (W ++ [x]) i = atR q W i + (if q (W.getD i ⟨#[]⟩) < q x then 1 else 0) := by
  unfold atR
  have hl : (W ++ [x]).length = W.length + 1 := by simp
  rw [hl, List.range_succ, List.countP_append]
  congr 1
  · apply List.countP_congr
    intro k hk
    have hk2 : k < W.length := by simpa using hk
    unfold aheadR
    rw [getD_snoc h, getD_snoc hk2]
  · rw [List.countP_cons, List.countP_nil]
    have e : aheadR q (W ++ [x]) i W.length = decide (q (W.getD i ⟨#[]⟩) < q x) := by
      unfold aheadR
      rw [getD_snoc h, getD_last, decide_eq_false (by omega : ¬ W.length < i), Bool.and_false, Bool.or_false]
    rw [e]
    simp
theorem at_last {W : List ByteArray} {x : ByteArray} : atR q (W ++ [x]) W.length = W.countP fun y => decide (q x ≤ q y) := by
  unfold atR
  have hl : (W ++ [x]).length = W.length + 1 := by simp
  rw [hl, List.range_succ, List.countP_append, List.countP_cons, List.countP_nil]
  have e0 : aheadR q (W ++ [x]) W.length W.length = false := by
    unfold aheadR; rw [getD_last, decide_eq_false (by omega), decide_eq_false (by omega : ¬ W.length < W.length)]; simp
  rw [e0]
  simp only [Bool.false_eq_true, if_false, Nat.add_zero]
  have key : ∀ (n : Nat), n ≤ W.length → (List.range n).countP (fun k => aheadR q (W ++ [x]) W.length k) = (W.take n).countP fun y => decide (q x ≤ q y) := by
    intro n
    induction n with
    | zero => intro _; rfl
    | succ n ih =>
      intro hn
      rw [List.range_succ, List.countP_append, ih (by omega), List.take_succ_eq_append_getElem (by omega), List.countP_append]
      congr 1
      rw [List.countP_cons, List.countP_nil, List.countP_cons, List.countP_nil]
      have e : aheadR q (W ++ [x]) W.length n = decide (q x ≤ q (W[n]'(by omega))) := by
        unfold aheadR
        rw [getD_last, getD_snoc (by omega), List.getD_eq_getElem?_getD, List.getElem?_eq_getElem (by omega : n < W.length), decide_eq_true (by omega : n < W.length), Bool.and_true]
        simp only [Option.getD_some]
        by_cases h1 : q x < q (W[n]'(by omega))
        · rw [decide_eq_true h1, Bool.true_or, decide_eq_true (Int.le_of_lt h1)]
        · rw [decide_eq_false h1, Bool.false_or]
          apply decide_eq_decide.2; omega
      rw [e]
  rw [key W.length (Nat.le_refl _), List.take_length]
theorem rank_all : ∀ (n : Nat) (V : List ByteArray), V.length = n → DescR q (rankQ q V) ∧ (∀ p : ByteArray → Bool, (rankQ q V).countP p = V.countP fun y => p y && decide (0 < q y)) ∧ ∀ i (hi : i < V.length), 0 < q V[i] → (rankQ q V)[atR q V i]? = some V[i]
  | 0, V, h => by
    have : V = [] := List.length_eq_zero_iff.1 h
    subst this
    exact ⟨trivial, fun p => rfl, fun i hi => by simp at hi⟩
  | n + 1, V, h => by
    obtain ⟨W, x, rfl⟩ : ∃ W x, V = W ++ [x] := by
      have hne : V ≠ [] := by intro e; subst e; simp at h
      exact ⟨V.dropLast, V.getLast hne, (List.dropLast_concat_getLast hne).symm⟩
    have hW : W.length = n := by simpa using h
    obtain ⟨i1, i2, i3⟩ := rank_all n W hW
    rw [rank_snoc]
    unfold stepR
    by_cases hx : 0 < q x
    · rw [if_pos hx]
      refine ⟨ins_desc i1, fun p => ?_, fun i hi hqi => ?_⟩
      · rw [ins_count, i2 p, List.countP_append, List.countP_cons, List.countP_nil]
        simp [hx]
      · have hn : aheadN q x (rankQ q W) = W.countP fun y => decide (q x ≤ q y) := by
          unfold aheadN
          rw [i2]
          apply List.countP_congr
          intro y _
          simp only [Bool.and_eq_true, decide_eq_true_eq]
          omega
        by_cases hil : i < W.length
        · have hVi : (W ++ [x])[i] = W[i] := List.getElem_append_left hil
          rw [hVi] at hqi ⊢
          have ih := i3 i hil hqi
          have hg : W.getD i ⟨#[]⟩ = W[i] := by rw [List.getD_eq_getElem?_getD, List.getElem?_eq_getElem hil]; rfl
          rw [at_snoc hil, hg, ins_at i1]
          have hlt : atR q W i < (rankQ q W).length := by
            rcases Nat.lt_or_ge (atR q W i) (rankQ q W).length with h | h
            · exact h
            · rw [List.getElem?_eq_none h] at ih; cases ih
          have hel : (rankQ q W)[atR q W i] = W[i] := by rw [List.getElem?_eq_getElem hlt] at ih; exact Option.some.inj ih
          have hf := ahead_front (x := x) i1 _ hlt
          rw [hel] at hf
          by_cases hxi : q W[i] < q x
          · rw [if_pos hxi]
            have hge : ¬ atR q W i < aheadN q x (rankQ q W) := fun h => by have := hf.1 h; omega
            rw [if_neg (by omega), if_neg (by omega), Nat.add_sub_cancel]; exact ih
          · rw [if_neg hxi, Nat.add_zero, if_pos (hf.2 (by omega))]; exact ih
        · have hie : i = W.length := by simp at hi; omega
          subst hie
          have hVi : (W ++ [x])[W.length] = x := by simp
          rw [hVi, at_last, ← hn, ins_at i1, if_neg (by omega), if_pos rfl]
    · rw [if_neg hx]
      refine ⟨i1, fun p => ?_, fun i hi hqi => ?_⟩
      · rw [i2 p, List.countP_append, List.countP_cons, List.countP_nil]
        simp [hx]
      · by_cases hil : i < W.length
        · have hVi : (W ++ [x])[i] = W[i] := List.getElem_append_left hil
          rw [hVi] at hqi ⊢
          have hg : W.getD i ⟨#[]⟩ = W[i] := by rw [List.getD_eq_getElem?_getD, List.getElem?_eq_getElem hil]; rfl
          rw [at_snoc hil, hg, if_neg (by omega), Nat.add_zero]
          exact i3 i hil hqi
        · have hie : i = W.length := by simp at hi; omega
          subst hie
          have hVi : (W ++ [x])[W.length] = x := by simp
          rw [hVi] at hqi; exact absurd hqi hx
theorem rank_at {V : List ByteArray} {i : Nat} (hi : i < V.length) (h : 0 < q V[i]) : (rankQ q V)[atR q V i]? = some V[i] := (rank_all V.length V rfl).2.2 i hi h
theorem rank_len (V : List ByteArray) : (rankQ q V).length = V.countP fun y => decide (0 < q y) := by
  have := (rank_all (q := q) V.length V rfl).2.1 (fun _ => true)
  simpa using this
end
section
abbrev LV := Int × List ByteArray
def insV (p : Int) (x : ByteArray) : List LV → List LV
  | [] => [(p, [x])]
  | t :: r => if t.1 < p then (p, [x]) :: t :: r else if t.1 = p then (t.1, t.2 ++ [x]) :: r else t :: insV p x r
def DescV : List LV → Prop
  | [] => True
  | t :: r => (∀ s ∈ r, s.1 < t.1) ∧ DescV r
def flatV (l : List LV) : List ByteArray := l.flatMap (·.2)
def GoodV (q : ByteArray → Int) (l : List LV) : Prop := ∀ t ∈ l, t.2 ≠ [] ∧ ∀ y ∈ t.2, q y = t.1
def stepV (q : ByteArray → Int) (acc : List LV) (v : ByteArray) : List LV := if 0 < q v then insV (q v) v acc else acc
def rankV (q : ByteArray → Int) (V : List ByteArray) : List LV := V.foldl (stepV q) []
theorem insV_mem {p : Int} {x : ByteArray} {s : LV} : ∀ {l : List LV}, s ∈ insV p x l → s.1 = p ∨ s ∈ l
  | [], h => by simp [insV] at h; exact .inl (by rw [h])
  | t :: r, h => by
    unfold insV at h
    split at h
    · rcases List.mem_cons.1 h with h | h
      · exact .inl (by rw [h])
      · exact .inr h
    · split at h
      · rename_i he
        rcases List.mem_cons.1 h with h | h
        · exact .inl (by rw [h]; exact he)
        · exact .inr (by simp [h])
      · rcases List.mem_cons.1 h with h | h
        · exact .inr (by simp [h])
        · rcases insV_mem h with h | h
          · exact .inl h
          · exact .inr (by simp [h])
theorem insV_desc {p : Int} {x : ByteArray} : ∀ {l : List LV}, DescV l → DescV (insV p x l)
  | [], _ => ⟨fun s hs => (by cases hs), trivial⟩
  | t :: r, h => by
    unfold insV
    split
    · rename_i hlt
      refine ⟨fun s hs => ?_, h⟩
      rcases List.mem_cons.1 hs with rfl | hs
      · exact hlt
      · exact Int.lt_trans (h.1 s hs) hlt
    · split
      · exact ⟨h.1, h.2⟩
      · rename_i h1 h2
        refine ⟨fun s hs => ?_, insV_desc h.2⟩
        rcases insV_mem hs with e | hs
        · omega
        · exact h.1 s hs
theorem insV_good {q : ByteArray → Int} {p : Int} {x : ByteArray} (hx : q x = p) : ∀ {l : List LV}, GoodV q l → GoodV q (insV p x l)
  | [], _ => fun t ht => by
    simp [insV] at ht; subst ht
    exact ⟨by simp, fun y hy => by simp at hy; rw [hy]; exact hx⟩
  | t :: r, h => by
    unfold insV
    split
    · intro s hs
      rcases List.mem_cons.1 hs with rfl | hs
      · exact ⟨by simp, fun y hy => by simp at hy; rw [hy]; exact hx⟩
      · exact h s hs
    · split
      · rename_i he
        intro s hs
        rcases List.mem_cons.1 hs with rfl | hs
        · refine ⟨by simp, fun y hy => ?_⟩
          rcases List.mem_append.1 hy with hy | hy
          · exact (h t (by simp)).2 y hy
          · simp at hy; rw [hy, hx]; exact he.symm
        · exact h s (by simp [hs])
      · intro s hs
        rcases List.mem_cons.1 hs with rfl | hs
        · exact h s (by simp)
        · exact insV_good hx (fun t ht => h t (by simp [ht])) s hs
section
variable {q : ByteArray → Int}
theorem insR_front {x : ByteArray} : ∀ {A B : List ByteArray}, (∀ y ∈ A, q x ≤ q y) → insR q x (A ++ B) = A ++ insR q x B
  | [], B, _ => rfl
  | y :: A, B, h => by
    show insR q x (y :: (A ++ B)) = y :: (A ++ insR q x B)
    have := h y (by simp)
    rw [insR, if_neg (by omega), insR_front (fun z hz => h z (by simp [hz]))]
theorem insR_first {x : ByteArray} : ∀ {B : List ByteArray}, (∀ y ∈ B, q y < q x) → insR q x B = x :: B
  | [], _ => rfl
  | y :: B, h => by rw [insR, if_pos (h y (by simp))]
theorem flat_ins {p : Int} {x : ByteArray} (hx : q x = p) : ∀ {l : List LV}, DescV l → GoodV q l → flatV (insV p x l) = insR q x (flatV l)
  | [], _, _ => rfl
  | t :: r, h, hg => by
    have hall : ∀ s ∈ r, ∀ y ∈ s.2, q y = s.1 ∧ s.1 < t.1 := fun s hs y hy => ⟨(hg s (by simp [hs])).2 y hy, h.1 s hs⟩
    have ht : ∀ y ∈ t.2, q y = t.1 := (hg t (by simp)).2
    have hfl : ∀ y ∈ flatV r, q y < t.1 := fun y hy => by
      obtain ⟨s, hs, hy⟩ := List.mem_flatMap.1 hy
      have := hall s hs y hy; omega
    unfold insV
    split
    · rename_i hlt
      show x :: flatV (t :: r) = _
      rw [insR_first]
      intro y hy
      rcases List.mem_append.1 (show y ∈ t.2 ++ flatV r from hy) with hy | hy
      · have := ht y hy; omega
      · have := hfl y hy; omega
    · split
      · rename_i he
        show (t.2 ++ [x]) ++ flatV r = insR q x (t.2 ++ flatV r)
        rw [insR_front (fun y hy => by have := ht y hy; omega), insR_first (fun y hy => by have := hfl y hy; omega)]
        simp
      · rename_i h1 h2
        show t.2 ++ flatV (insV p x r) = insR q x (t.2 ++ flatV r)
        rw [insR_front (fun y hy => by have := ht y hy; omega), flat_ins hx h.2 (fun s hs => hg s (by simp [hs]))]
theorem rankV_next {V : List ByteArray} {j : Nat} (h : j < V.length) : rankV q (V.take (j + 1)) = stepV q (rankV q (V.take j)) V[j] := by
  unfold rankV
  rw [List.take_succ_eq_append_getElem h, List.foldl_append]; rfl
theorem rankV_all : ∀ (n : Nat) (V : List ByteArray), V.length = n → DescV (rankV q V) ∧ GoodV q (rankV q V) ∧ flatV (rankV q V) = rankQ q V
  | 0, V, h => by
    have : V = [] := List.length_eq_zero_iff.1 h
    subst this
    exact ⟨trivial, fun t ht => (by cases ht), rfl⟩
  | n + 1, V, h => by
    obtain ⟨W, x, rfl⟩ : ∃ W x, V = W ++ [x] := by
      have hne : V ≠ [] := by intro e; subst e; simp at h
      exact ⟨V.dropLast, V.getLast hne, (List.dropLast_concat_getLast hne).symm⟩
    obtain ⟨i1, i2, i3⟩ := rankV_all n W (by simpa using h)
    have e : rankV q (W ++ [x]) = stepV q (rankV q W) x := by unfold rankV; rw [List.foldl_append]; rfl
    rw [e, rank_snoc]
    unfold stepV stepR
    by_cases hx : 0 < q x
    · rw [if_pos hx, if_pos hx]
      exact ⟨insV_desc i1, insV_good rfl i2, by rw [flat_ins rfl i1 i2, i3]⟩
    · rw [if_neg hx, if_neg hx]
      exact ⟨i1, i2, i3⟩
end
/-- the levels ahead are greater -/
theorem insV_behind {p : Int} {x : ByteArray} : ∀ {A B : List LV}, (∀ t ∈ A, p < t.1) → insV p x (A ++ B) = A ++ insV p x B
  | [], B, _ => rfl
  | t :: A, B, h => by
    show insV p x (t :: (A ++ B)) = t :: (A ++ insV p x B)
    have := h t (by simp)
    rw [insV, if_neg (by omega), if_neg (by omega), insV_behind (fun z hz => h z (by simp [hz]))]
theorem insV_new {p : Int} {x : ByteArray} : ∀ {B : List LV}, (∀ t ∈ B, t.1 < p) → insV p x B = (p, [x]) :: B
  | [], _ => rfl
  | t :: B, h => by rw [insV, if_pos (h t (by simp))]
theorem insV_old {p : Int} {x : ByteArray} {vs : List ByteArray} {B : List LV} : insV p x ((p, vs) :: B) = (p, vs ++ [x]) :: B := by
  rw [insV, if_neg (by omega), if_pos rfl]
theorem descV_at : ∀ {l : List LV}, DescV l → ∀ i j (hi : i < l.length) (hj : j < l.length), i < j → l[j].1 < l[i].1
  | t :: r, h, 0, j + 1, _, hj, _ => h.1 _ (List.getElem_mem _)
  | t :: r, h, i + 1, j + 1, hi, hj, hij => by
    have := descV_at h.2 i j (by simpa using hi) (by simpa using hj) (by omega)
    exact this
theorem flatV_len {V : List ByteArray} {q : ByteArray → Int} : (flatV (rankV q V)).length ≤ V.length := by
  rw [(rankV_all V.length V rfl).2.2, rank_len]
  exact List.countP_le_length
theorem rankV_len {V : List ByteArray} {q : ByteArray → Int} : (rankV q V).length ≤ V.length := by
  refine Nat.le_trans ?_ (flatV_len (q := q))
  have hg := (rankV_all (q := q) V.length V rfl).2.1
  generalize rankV q V = l at hg
  induction l with
  | nil => simp
  | cons t r ih =>
    have h1 := ih (fun s hs => hg s (by simp [hs]))
    have h2 : 0 < t.2.length := List.length_pos_iff.2 (hg t (by simp)).1
    have e : flatV (t :: r) = t.2 ++ flatV r := rfl
    rw [e, List.length_append, List.length_cons]; omega
end
section
open Go.RowKit
/-- a level in memory: its quality, the slice of its values, the values -/
abbrev TL := Int × Value × List ByteArray
def plT (T : List TL) : List LV := T.map fun t => (t.1, t.2.2)
def cellsT (T : List TL) : List Value := T.flatMap fun t => [.int .i64 t.1, t.2.1]
theorem cellsT_len (T : List TL) : (cellsT T).length = T.length * 2 := by
  induction T with
  | nil => rfl
  | cons p T ih => simp only [cellsT, List.flatMap_cons, List.length_append, List.length_cons, List.length_nil] at *; omega
theorem cellsT_app (T U : List TL) : cellsT (T ++ U) = cellsT T ++ cellsT U := by simp [cellsT]
theorem cellsT_cons (t : TL) (T : List TL) : cellsT (t :: T) = .int .i64 t.1 :: t.2.1 :: cellsT T := rfl
theorem cellsT_at (T : List TL) (i : Nat) (h : i < T.length) : (cellsT T)[i * 2]? = some (.int .i64 T[i].1) ∧ (cellsT T)[i * 2 + 1]? = some T[i].2.1 := by
  have e : T = T.take i ++ T[i] :: T.drop (i + 1) := by rw [← List.drop_eq_getElem_cons h, List.take_append_drop]
  have hl : (cellsT (T.take i)).length = i * 2 := by rw [cellsT_len, List.length_take, Nat.min_eq_left (Nat.le_of_lt h)]
  have e2 : cellsT T = cellsT (T.take i) ++ (.int .i64 T[i].1 :: T[i].2.1 :: cellsT (T.drop (i + 1))) := by
    conv => lhs; rw [e, cellsT_app]
    rfl
  rw [e2]
  constructor
  · rw [List.getElem?_append_right (by omega), hl]; simp
  · rw [List.getElem?_append_right (by omega), hl]; simp
theorem info_lev : (Try.prog.info? 42).map (fun i => (i.zero, i.size, i.bytes)) = some (some (.agg #[.int .i64 0, .slice none 0 0]), 2, 32) := by kernel_rfl
def OwnTL (w : World) (B : Nat) (v : Value) (T : List TL) : Prop := w.ownsRow B 42 2 v T.length (cellsT T)
def Apart (s t : TL) : Prop := ∀ k, s.2.1.ownBlock = some k → t.2.1.ownBlock ≠ some k
/-- the levels, all of them from block B on -/
structure Lev (w : World) (B : Nat) (v : Value) (T : List TL) : Prop where
  row : OwnTL w B v T
  vals : ∀ t ∈ T, OwnS w B t.2.1 t.2.2
  apart : T.Pairwise Apart
theorem Apart.symm {s t : TL} (h : Apart s t) : Apart t s := fun k h1 h2 => h k h2 h1
section
variable {w w' : World} {B : Nat} {v : Value} {T : List TL}
theorem Lev.nil (w : World) (B : Nat) : Lev w B (.slice none 0 0) [] := ⟨World.ownsRow_nil _ _ _ _, fun t ht => (by cases ht), List.Pairwise.nil⟩
theorem Lev.below (h : Lev w B v T) (hb : Below w.heap.size w w') : Lev w' B v T := ⟨own_below h.row hb, fun t ht => own_below (h.vals t ht) hb, h.apart⟩
/-- levels at an address -/
def Ts (w : World) (a : Option Addr) (T : List TL) : Prop :=
  ∀ i (h : i < T.length), ∃ g off, a = some ⟨g, off, none⟩ ∧ w.cell? ⟨g, off + i * 2, none⟩ = some (.int .i64 T[i].1) ∧ w.cell? ⟨g, off + i * 2 + 1, none⟩ = some T[i].2.1
theorem Ts.below {a : Option Addr} (h : Ts w a T) (hb : Below w.heap.size w w') : Ts w' a T := fun i hi => by
  obtain ⟨g, off, e, c0, c1⟩ := h i hi
  exact ⟨g, off, e, (hb.cell (cell_lt c0)).trans c0, (hb.cell (cell_lt c1)).trans c1⟩
theorem OwnTL.ts (h : OwnTL w B v T) : ∃ a cap, v = .slice a T.length cap ∧ Ts w a T ∧ T.length ≤ cap := by
  rcases h.2 with ⟨rfl, hn⟩ | ⟨g, cap, cur, rfl, hB, hg, hc, hm, hs, ht⟩
  · exact ⟨none, 0, by rw [hn], fun i hi => by omega, by omega⟩
  · refine ⟨_, cap, rfl, fun i hi => ⟨g, 0, rfl, ?_, ?_⟩, hc⟩
    all_goals
      obtain ⟨q0, q1⟩ := cellsT_at T i hi
      rw [← ht] at q0 q1
      rw [List.getElem?_take] at q0 q1
      rw [if_pos (by omega)] at q0 q1
      simp only [World.cell?, hg]
    · simpa using q0
    · simpa [Nat.add_assoc] using q1
/-- a slice of strings is written out -/
theorem Lev.slice (h : Lev w B v T) {t : TL} (ht : t ∈ T) : ∃ a cap, t.2.1 = .slice a t.2.2.length cap ∧ Ss w a t.2.2 ∧ t.2.2.length ≤ cap := (h.vals t ht).ss
/-- the row lies in another block than the strings -/
theorem lev_ne {L : List ByteArray} {s : Value} (h : OwnTL w B v T) (h2 : OwnS w B s L) {k : Nat} (hk : v.ownBlock = some k) : s.ownBlock ≠ some k := by
  intro hs
  rcases h.2 with ⟨rfl, _⟩ | ⟨g, cap, cur, rfl, hB, hg, _⟩
  · simp [Value.ownBlock] at hk
  · rcases h2.2 with ⟨rfl, _⟩ | ⟨g2, cap2, cur2, rfl, hB2, hg2, _⟩
    · simp [Value.ownBlock] at hs
    · simp [Value.ownBlock] at hk hs
      subst hk; subst hs
      rw [hg] at hg2
      have := (Option.some.inj hg2)
      injection this with _ e _
      exact absurd e (by decide)
end
/-- append of a slice of strings -/
theorem wpList_append_strs (w : World) {ops : Array Oper} {rest : List Oper} {o : Oper} {a : Act} {Q : Exit → Act → World → Prop} (hgd : o.guard = none) (s x : Operand)
    (ho : o.op = .call { callee := .builtin .append, args := #[s, x], argTypes := #[27, 27] })
    (B : Nat) (v : Value) (L : List ByteArray) (hs : a.eval s = v) (hown : OwnS w B v L)
    (M : List ByteArray) (p : Addr) (n c : Nat) (hx : a.eval x = .slice (some p) n c) (hn : M.length = n) (hM : Ss w (some p) M) (h0 : 0 < n) (hl : L.length ≤ 65536) (hl2 : n ≤ 65536) (hB : B ≤ w.heap.size)
    (h : ∀ v' w', OwnS w' B v' (L ++ M) → Below B w w' → wpList Try.prog ops Q rest (a.put o.dst v') w') : wpList Try.prog ops Q (o :: rest) a w := by
  obtain ⟨i0, hi0, hz0, hz1, hz2⟩ := info_parts info_str
  refine wpList_append_own (P := Try.prog) w hgd s x 27 ho B 9 i0 _ 1 16 Try.underlying27 hi0 hz0 hz1 hz2 rfl (by decide) v L.length (L.map Value.string) hs hown p n c (M.map Value.string) hx (by simp [hn]) ?_ ?_ (by unfold maxLen; omega) (by omega) hB ?_
  · intro j u hj
    have hjl : j < M.length := by
      rcases Nat.lt_or_ge j M.length with h | h
      · exact h
      · rw [List.getElem?_eq_none (by simpa using h)] at hj; cases hj
    obtain ⟨g, off, e, c0⟩ := hM j hjl
    cases e
    simp [hjl] at hj
    subst hj
    rw [Addr.add_lit]; exact c0
  · intro u hu
    obtain ⟨y, _, rfl⟩ := List.mem_map.1 hu
    rfl
  · intro v' w' q1 q2 _
    refine h v' w' (by simpa [OwnS, hn] using q1) ((Below.refl _ _).grown q2 hB (fun k hk => own_block hown k hk))
/-- copy into a row, elements of any number of cells -/
theorem run_copy_rowN {P : Program} (w : World) (dT sT ty elem : TypeId) (size n : Nat) (g o dLen dCap : Nat) (a : Addr) (sLen sCap : Nat) (cur : Array Value) (t : TypeId) (cs : List Value)
    (hu : P.underlying dT = some (.slice elem)) (hs : (P.info? elem).map (·.size) = some size)
    (hg : w.heap[g]? = some (.cells cur t (0, 0))) (hn : n = Nat.min sLen dLen) (hl : cs.length = n * size)
    (hsrc : ∀ j v, cs[j]? = some v → w.cell? (a.add j) = some v) (hfit : o + cs.length ≤ cur.size) (h1 : ∀ v ∈ cs, v.oneCell' = true) :
    (Builtin.copy_ #[dT, sT] ty #[.slice (some ⟨g, o, none⟩) dLen dCap, .slice (some a) sLen sCap]).run P w =
      .ok (goInt n) (w.setRow g (cur.toList.take o ++ cs ++ cur.toList.drop (o + cs.length)).toArray) := by
  have hst := run_storeCells_at P g o t cs 0 cur w hg (by simpa using hfit) h1
  have hf := run_firstCells_some (P := P) w size n a sLen sCap cs hl hsrc
  cases hq : P.info? elem with
  | none => simp [hq] at hs
  | some i =>
    have hi : i.size = size := by simpa [hq] using hs
    simp [Builtin.copy_, run_underlying hu, Builtin.lenOf, sizeOf, typeInfo, hq, hi, ← hn, hf, hst]
section
variable {P : Program}
theorem wp_copy_run14 (w : World) {o : Oper} {a : Act} {K : Act → World → Prop} {Q : Exit → Act → World → Prop} (d s : Operand) (t t' : TypeId)
    (ho : o.op = .call { callee := .builtin .copy, args := #[d, s], argTypes := #[t, t'] }) (v u : Value) (hd : a.eval d = v) (hs : a.eval s = u) {v' : Value} {w' : World}
    (hr : (Builtin.copy_ #[t, t'] o.type #[v, u]).run P w = .ok v' w') (h : K (a.put o.dst v') w') : o.wp P a w K Q := by
  unfold Oper.wp execOp
  simp only [ho, resolve, invoke, builtin, Sem.run_bind, Sem.run_pure, Result.andThen_ok, List.map_toArray, List.map_cons, List.map_nil, hd, hs, hr]
  exact h
theorem step_copy_run14 {ops : Array Oper} {o : Oper} {a : Act} {w : World} {K : Act → World → Prop} {Q : Exit → Act → World → Prop} {E : Prop}
    (hg : o.guard = none) (d x : Operand) (dT sT : TypeId) (hop : o.op = Op.call { callee := Callee.builtin Builtin.copy, args := #[d, x], argTypes := #[dT, sT] })
    (v u : Value) (hd : a.eval d = v) (hx : a.eval x = u) {v' : Value} {w' : World} (hr : (Builtin.copy_ #[dT, sT] o.type #[v, u]).run P w = .ok v' w') (hK : K (a.put o.dst v') w') :
    if Region.wanted o (yielded ops a.tmps) = true then Oper.wp P o a w K Q else E := by
  have hw : Region.wanted o (yielded ops a.tmps) = true := by simp [Region.wanted, hg]
  rw [if_pos hw]
  exact wp_copy_run14 w d x dT sT hop v u hd hx hr hK
end
end
end Go.Proofs.Ytgmfmlcpogbolaa.Asc
