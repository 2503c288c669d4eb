/- Merged texts: MedRef2 MedRef3 AccSpec LisRef3 LisRef4 LisKeep VarSpec PrfMem AccRef MedRef4. -/
import Derived.Test.YtklfpkaemnhdhaaGreatDoorZa01
import Derived.Test.YtklfpkaemnhdhaaGreatDoorZa02
import Derived.Test.YtklfpkaemnhdhaaGreatDoorZa03
import Derived.Test.YtklfpkaemnhdhaaGreatDoorZa04
import Derived.Test.YtklfpkaemnhdhaaGreatDoorZa05
set_option linter.unusedVariables false
set_option linter.unusedSimpArgs false
set_option maxRecDepth 100000
namespace Go.Proofs.YtklfpkaemnhdhaaGreatDoor.Asc
section
open Go.RowKit
theorem rRange_is {s : ByteArray} {a b : ByteArray} {L : List F} {q : Bool} {w : World} (hs : s.size ≤ 65000) (h : Box (ofM (rangeL s.data.toList) = (a, b, L) ∧ (rangeL s.data.toList).isSome = q)) :
    Calls Tryz.prog 62 #[.string s] w fun e w' => ∃ p cap, e = .returned (.tuple #[.agg #[.string a, .string b, .slice p L.length cap], .bool q]) ∧ OwnP w' w.heap.size (.slice p L.length cap) L ∧ Below w.heap.size w w' :=
  (rRange_any s w hs).mono fun e w' ⟨v, h1, h2, h3⟩ => by
    rw [h.out.1] at h1 h2
    rw [h.out.2] at h1
    obtain ⟨p, cap, rfl, _, _⟩ := h2.fs
    exact ⟨p, cap, h1, h2, h3⟩
theorem media_cases (l : List UInt8) : mediaL l = if (rangeL l).isSome = true then (if (ofM (rangeL l)).1 = star ∨ (ofM (rangeL l)).2.1 = star then none else some (ofM (rangeL l))) else none := by
  unfold mediaL ofM
  cases h : rangeL l with
  | none => rfl
  | some x => obtain ⟨a, b, L⟩ := x; rfl
theorem star_eq {x : ByteArray} {b : Bool} (h : (x.toList == [42]) = b) : x = star ↔ b = true := by
  rw [← star_is h]
  constructor
  · intro e; rw [e]; rfl
  · intro e; rw [bs_of x, e]; rfl
set_option maxHeartbeats 1000000 in
theorem rMedia_any (s : ByteArray) (w : World) (hs : s.size ≤ 65000) :
    Calls Tryz.prog 49 #[.string s] w fun e w' => medW w w' (mediaL s.data.toList) e := by
  obtain ⟨⟨a, b, L⟩, hM⟩ : ∃ m, ofM (rangeL s.data.toList) = m := ⟨_, rfl⟩
  obtain ⟨q, hq⟩ : ∃ q, (rangeL s.data.toList).isSome = q := ⟨_, rfl⟩
  have H := box (And.intro hM hq)
  have HC := media_cases s.data.toList
  rw [hM, hq] at HC
  clear hM hq
  rcases q with _ | _
  · have HR : Box (mediaL s.data.toList = none) := box (by rw [HC]; rfl)
    clear HC
    go_enter Tryz.func49, Tryz.ntmps49
    go_wp2_with fail
    refine (rRange_is hs H).mono ?_; rintro e w1 ⟨p, cap, rfl, hO1, hb1⟩
    have C1 := box (((C3.new (.string ⟨#[]⟩) (.string ⟨#[]⟩) (.slice none 0 0) w 77).next hb1).next (below_new w1 (.cells #[.string a, .string b, .slice p L.length cap] 77)))
    have B1 := box (((below_new w _).trans (hb1.mono (below_new w _).size)).alloc ((below_new w _).trans (hb1.mono (below_new w _).size)).size (.cells #[.string a, .string b, .slice p L.length cap] 77))
    clear hO1 hb1
    obtain ⟨⟨r0, r1, r2⟩, ⟨f0, f1, f2⟩⟩ := C1.out
    go_wp2
    (try simp only [Exit.inBlock, Exit.then])
    refine bodyPost_ret (v := .tuple #[.agg #[.string ⟨#[]⟩, .string ⟨#[]⟩, .slice none 0 0], .bool false]) (by rw [results_cell_tmp rfl]; go_simp) rfl ?_
    exact medW_none HR (below3 B1.out (Nat.le_refl _) _ _ _)
  · rcases h1 : (a.toList == [42]) with _ | _
    · rcases h2 : (b.toList == [42]) with _ | _
      · have HR : Box (mediaL s.data.toList = some (a, b, L)) := box (by
          rw [HC, if_pos rfl, if_neg (by
            rintro (e | e)
            · have := (star_eq h1).mp e; simp at this
            · have := (star_eq h2).mp e; simp at this)])
        clear HC
        go_enter Tryz.func49, Tryz.ntmps49
        go_wp2_with fail
        refine (rRange_is hs H).mono ?_; rintro e w1 ⟨p, cap, rfl, hO1, hb1⟩
        have C1 := box (((C3.new (.string ⟨#[]⟩) (.string ⟨#[]⟩) (.slice none 0 0) w 77).next hb1).next (below_new w1 (.cells #[.string a, .string b, .slice p L.length cap] 77)))
        have B1 := box (((below_new w _).trans (hb1.mono (below_new w _).size)).alloc ((below_new w _).trans (hb1.mono (below_new w _).size)).size (.cells #[.string a, .string b, .slice p L.length cap] 77))
        have O1 := box (own_below hO1 (below_new w1 (.cells #[.string a, .string b, .slice p L.length cap] 77)))
        clear hO1 hb1
        obtain ⟨⟨r0, r1, r2⟩, ⟨f0, f1, f2⟩⟩ := C1.out
        go_wp2
        (try simp only [Exit.inBlock, Exit.then])
        refine bodyPost_ret (v := .tuple #[.agg #[.string a, .string b, .slice p L.length cap], .bool true]) (by rw [results_cell_tmp rfl]; go_simp) rfl ?_
        exact medW_some HR (own_le (own_only O1.out (only3 _ _ _ _ _) (by simp)) (by simp)) (below3 B1.out (Nat.le_refl _) _ _ _)
      · have HR : Box (mediaL s.data.toList = none) := box (by rw [HC, if_pos rfl, if_pos (.inr ((star_eq h2).mpr rfl))])
        clear HC
        go_enter Tryz.func49, Tryz.ntmps49
        go_wp2_with fail
        refine (rRange_is hs H).mono ?_; rintro e w1 ⟨p, cap, rfl, hO1, hb1⟩
        have C1 := box (((C3.new (.string ⟨#[]⟩) (.string ⟨#[]⟩) (.slice none 0 0) w 77).next hb1).next (below_new w1 (.cells #[.string a, .string b, .slice p L.length cap] 77)))
        have B1 := box (((below_new w _).trans (hb1.mono (below_new w _).size)).alloc ((below_new w _).trans (hb1.mono (below_new w _).size)).size (.cells #[.string a, .string b, .slice p L.length cap] 77))
        have O1 := box (own_below hO1 (below_new w1 (.cells #[.string a, .string b, .slice p L.length cap] 77)))
        clear hO1 hb1
        obtain ⟨⟨r0, r1, r2⟩, ⟨f0, f1, f2⟩⟩ := C1.out
        go_wp2
        (try simp only [Exit.inBlock, Exit.then])
        refine bodyPost_ret (v := .tuple #[.agg #[.string ⟨#[]⟩, .string ⟨#[]⟩, .slice none 0 0], .bool false]) (by rw [results_cell_tmp rfl]; go_simp) rfl ?_
        exact medW_none HR (below3 B1.out (Nat.le_refl _) _ _ _)
    · have HR : Box (mediaL s.data.toList = none) := box (by rw [HC, if_pos rfl, if_pos (.inl ((star_eq h1).mpr rfl))])
      clear HC
      go_enter Tryz.func49, Tryz.ntmps49
      go_wp2_with fail
      refine (rRange_is hs H).mono ?_; rintro e w1 ⟨p, cap, rfl, hO1, hb1⟩
      have C1 := box (((C3.new (.string ⟨#[]⟩) (.string ⟨#[]⟩) (.slice none 0 0) w 77).next hb1).next (below_new w1 (.cells #[.string a, .string b, .slice p L.length cap] 77)))
      have B1 := box (((below_new w _).trans (hb1.mono (below_new w _).size)).alloc ((below_new w _).trans (hb1.mono (below_new w _).size)).size (.cells #[.string a, .string b, .slice p L.length cap] 77))
      have O1 := box (own_below hO1 (below_new w1 (.cells #[.string a, .string b, .slice p L.length cap] 77)))
      clear hO1 hb1
      obtain ⟨⟨r0, r1, r2⟩, ⟨f0, f1, f2⟩⟩ := C1.out
      go_wp2
      (try simp only [Exit.inBlock, Exit.then])
      refine bodyPost_ret (v := .tuple #[.agg #[.string ⟨#[]⟩, .string ⟨#[]⟩, .slice none 0 0], .bool false]) (by rw [results_cell_tmp rfl]; go_simp) rfl ?_
      exact medW_none HR (below3 B1.out (Nat.le_refl _) _ _ _)
def fmtMB (m : M) : ByteArray := fmtPB (m.1 ++ (⟨#[47]⟩ : ByteArray) ++ m.2.1) m.2.2
theorem rFmtType_any (a b : ByteArray) (p : Option Addr) (cap : Nat) (L : List F) (w : World) (ha : a.size ≤ 30000) (hb : b.size ≤ 30000) (hl : L.length ≤ 65536) (hz : Box (∀ i (hi : i < L.length), L[i].1.size ≤ 65536 ∧ L[i].2.size ≤ 65536)) (hF : Box (Fs w p L)) :
    Calls Tryz.prog 96 #[.agg #[.string a, .string b, .slice p L.length cap]] w fun e w' => e = .returned (.string (fmtMB (a, b, L))) ∧ Below w.heap.size w w' := by
  have s1 : (a ++ (⟨#[47]⟩ : ByteArray)).size = a.size + 1 := by rw [ByteArray.size_append]; rfl
  have r1 : ∀ w, (Op.stringOp .add a ⟨#[47]⟩).run Tryz.prog w = .ok (.string (a ++ ⟨#[47]⟩)) w := fun w => run_string_add_sum w _ _ (by show a.size + 1 ≤ 9223372036854775807; omega)
  have r2 : ∀ w, (Op.stringOp .add (a ++ (⟨#[47]⟩ : ByteArray)) b).run Tryz.prog w = .ok (.string (a ++ ⟨#[47]⟩ ++ b)) w := fun w => run_string_add_sum w _ _ (by rw [s1]; show a.size + 1 + b.size ≤ 9223372036854775807; omega)
  have hv : (a ++ (⟨#[47]⟩ : ByteArray) ++ b).size ≤ 65536 := by rw [ByteArray.size_append, s1]; omega
  clear s1
  go_enter Tryz.func96, Tryz.ntmps96
  go_wp2_with fail
  refine (rFmt_any (a ++ (⟨#[47]⟩ : ByteArray) ++ b) p cap L _ hv hl hz (box (hF.out.below (below_new w _)))).mono ?_; rintro e w1 ⟨rfl, hb1⟩
  have B1 := box ((below_new w _).trans (hb1.mono (below_new w _).size))
  clear hb1
  go_wp2
  go_ret
  exact ⟨rfl, B1.out⟩
end
section
open Go.RowKit
def prmOk (p q : F) : Bool := p.1.toList == q.1.toList && foldL p.2.data.toList q.2.data.toList
def prmIn (p : F) (L : List F) : Bool := L.any (prmOk p)
def matchI (r t : M) : Int :=
  if (r.1.toList == [42] && r.2.1.toList == [42]) = true then 0
  else if (r.1.toList == t.1.toList) = false then -1
  else if (r.2.1.toList == [42]) = true then 1
  else if (r.2.1.toList == t.2.1.toList) = false then -1
  else if (r.2.2.all fun p => prmIn p t.2.2) = true then 2 + (r.2.2.length : Int) else -1
theorem anyM_more {α : Type} {f : α → Bool} {L : List α} {k : Nat} (h : k < L.length) : (L.take (k + 1)).any f = ((L.take k).any f || f L[k]) := by
  rw [List.take_add_one, List.getElem?_eq_getElem h, List.any_append]; simp
theorem allM_more {α : Type} {f : α → Bool} {L : List α} {k : Nat} (h : k < L.length) (ha : (L.take k).all f = true) (hf : f L[k] = true) : (L.take (k + 1)).all f = true := by
  rw [List.take_add_one, List.getElem?_eq_getElem h, List.all_append, ha]; simp [hf]
theorem allM_not {α : Type} {f : α → Bool} {L : List α} {k : Nat} (h : k < L.length) (hf : f L[k] = false) : L.all f = false := by
  rw [List.all_eq_false]; exact ⟨L[k], List.getElem_mem h, by simp [hf]⟩
theorem rFold10_is {a b : ByteArray} {q : Bool} {w : World} (ha : a.size ≤ 4294967296) (hb : b.size ≤ 4294967296) (h : Box (foldL a.data.toList b.data.toList = q)) :
    Calls Tryz.prog 58 #[.string a, .string b] w fun e w' => e = .returned (.bool q) ∧ Below w.heap.size w w' :=
  (rFold_any a b w ha hb).mono fun e w' ⟨h1, h2⟩ => ⟨by rw [h1, h.out], h2⟩
def MatO (K L : List F) (W : World) (i : Value) (wr : World) : Prop := ∃ k : Nat, i = .int .i64 k ∧ k ≤ K.length ∧ ((K.take k).all fun p => prmIn p L) = true ∧ Below W.heap.size W wr
def MatI (p : F) (L : List F) (W : World) (f i : Value) (wr : World) : Prop := ∃ k : Nat, i = .int .i64 k ∧ k ≤ L.length ∧ f = .bool ((L.take k).any (prmOk p)) ∧ Below W.heap.size W wr
/-- the ways that end before the parameters are looked at -/
theorem rMatch_early (a b c d : ByteArray) (p q : Option Addr) (cp cq : Nat) (K L : List F) (w : World) (v : Int) (q1 q2 q3 q4 : Bool) (h1 : (a.toList == [42]) = q1) (h2 : (b.toList == [42]) = q2) (h3 : (a.toList == c.toList) = q3) (h4 : (b.toList == d.toList) = q4)
    (hq : (q1 = true ∧ q2 = true) ∨ q3 = false ∨ q2 = true ∨ q4 = false) :
    Calls Tryz.prog 63 #[.agg #[.string a, .string b, .slice p K.length cp], .agg #[.string c, .string d, .slice q L.length cq]] w fun e w' => e = .returned (.int .i64 (matchI (a, b, K) (c, d, L))) ∧ Below w.heap.size w w' := by
  have B2 : Box (Below w.heap.size w ((w.alloc (.cells #[.string a, .string b, .slice p K.length cp] 77)).alloc (.cells #[.string c, .string d, .slice q L.length cq] 77))) := box ((below_new w _).alloc (below_new w _).size _)
  obtain ⟨x, hx⟩ : ∃ x, matchI (a, b, K) (c, d, L) = x := ⟨_, rfl⟩
  have HX := box hx
  unfold matchI at hx
  simp only [h1, h2, h3, h4] at hx
  rw [HX.out]
  clear HX
  cases q1 <;> cases q2 <;> cases q3 <;> cases q4
  all_goals first
    | (exfalso; simp at hq; done)
    | (simp at hx
       subst hx
       clear hq
       go_enter Tryz.func63, Tryz.ntmps63
       go_wp2
       go_ret
       exact ⟨rfl, B2.out⟩)
set_option maxHeartbeats 4000000 in
theorem rMatch_late (a b c d : ByteArray) (p q : Option Addr) (cp cq : Nat) (K L : List F) (w : World) (hk : K.length ≤ 65536) (hl : L.length ≤ 65536)
    (hzK : Box (∀ i (hi : i < K.length), K[i].1.size ≤ 65536 ∧ K[i].2.size ≤ 65536)) (hzL : Box (∀ i (hi : i < L.length), L[i].1.size ≤ 65536 ∧ L[i].2.size ≤ 65536)) (hK : Box (Fs w p K)) (hL : Box (Fs w q L))
    (q1 : Bool) (h1 : (a.toList == [42]) = q1) (h2 : (b.toList == [42]) = false) (h3 : (a.toList == c.toList) = true) (h4 : (b.toList == d.toList) = true) :
    Calls Tryz.prog 63 #[.agg #[.string a, .string b, .slice p K.length cp], .agg #[.string c, .string d, .slice q L.length cq]] w fun e w' => e = .returned (.int .i64 (matchI (a, b, K) (c, d, L))) ∧ Below w.heap.size w w' := by
  obtain ⟨W, hW⟩ : ∃ W, (w.alloc (.cells #[.string a, .string b, .slice p K.length cp] 77)).alloc (.cells #[.string c, .string d, .slice q L.length cq] 77) = W := ⟨_, rfl⟩
  have B2 : Box (Below w.heap.size w W) := box (by rw [← hW]; exact (below_new w _).alloc (below_new w _).size _)
  have G0 : Box (W.cell? ⟨w.heap.size, 2, none⟩ = some (.slice p K.length cp)) := box (by
    rw [← hW, (below_new _ _).cell (by simp), World.cell?_alloc_mark]; rfl)
  have G1 : Box (W.cell? ⟨w.heap.size + 1, 2, none⟩ = some (.slice q L.length cq)) := box (by
    rw [← hW, show w.heap.size + 1 = (w.alloc (.cells #[.string a, .string b, .slice p K.length cp] 77)).heap.size from by simp, World.cell?_alloc_mark]; rfl)
  have FK := box (hK.out.below B2.out)
  have FL := box (hL.out.below B2.out)
  have HV : Box (matchI (a, b, K) (c, d, L) = if (K.all fun p => prmIn p L) = true then 2 + (K.length : Int) else -1) := box (by
    unfold matchI; simp [h2, h3, h4])
  rw [HV.out]
  obtain ⟨z, hz⟩ : ∃ z : Int, (if (K.all fun p => prmIn p L) = true then 2 + (K.length : Int) else -1) = z := ⟨_, rfl⟩
  rw [hz]
  have HZ := box hz
  have HWB := box hW
  clear HV hW hz
  rcases q1 with _ | _
  all_goals
    go_enter Tryz.func63, Tryz.ntmps63
    go_wp2
    rw [HWB.out]
    go_loopw [5] (fun i wr => MatO K L W i wr) (fun i _ => K.length - (intOf i).toNat)
    case atStart => exact ⟨0, rfl, Nat.zero_le _, rfl, Below.refl _ _⟩
    case round =>
      obtain ⟨wo, rfl⟩ : ∃ wo, wo = wr := ⟨_, rfl⟩
      obtain ⟨k, rfl, hk2, hall, hbel⟩ := hrel
      have HA := box hall
      have BL := box hbel
      have g0 := (hbel.cell (p := ⟨w.heap.size, 2, none⟩) (cell_lt G0.out)).trans G0.out
      have g1 := (hbel.cell (p := ⟨w.heap.size + 1, 2, none⟩) (cell_lt G1.out)).trans G1.out
      have FK1 := box (FK.out.below hbel)
      clear hall hbel
      by_cases hlt : k < K.length
      · obtain ⟨gk, ok, rfl, c0, c1⟩ := FK1.out k hlt
        obtain ⟨zk1, zk2⟩ := hzK.out k hlt
        have FL1 := box (FL.out.below BL.out)
        have hBW := BL.out.size
        go_wp2
        go_loopw [6, 7] (fun f i wi => MatI K[k] L wo f i wi) (fun _ i _ => L.length - (intOf i).toNat)
        case atStart => exact ⟨0, rfl, Nat.zero_le _, rfl, Below.refl _ _⟩
        case round =>
          obtain ⟨j, rfl, hj2, rfl, hbel⟩ := hrel
          obtain ⟨fb, hfb⟩ : ∃ fb, (L.take j).any (prmOk K[k]) = fb := ⟨_, rfl⟩
          rw [hfb]
          have HFB := box hfb
          have BI := box hbel
          have m0 := (hbel.cell (p := ⟨w.heap.size, 2, none⟩) (cell_lt g0)).trans g0
          have m1 := (hbel.cell (p := ⟨w.heap.size + 1, 2, none⟩) (cell_lt g1)).trans g1
          have n0 := (hbel.cell (p := ⟨gk, ok + k * 2, none⟩) (cell_lt c0)).trans c0
          have n1 := (hbel.cell (p := ⟨gk, ok + k * 2 + 1, none⟩) (cell_lt c1)).trans c1
          have FL2 := box (FL1.out.below hbel)
          have hbs := hbel.size
          clear hbel hfb
          by_cases hjl : j < L.length
          · obtain ⟨gl, ol, rfl, e0, e1⟩ := FL2.out j hjl
            obtain ⟨zl1, zl2⟩ := hzL.out j hjl
            rcases fb with _ | _
            · rcases hnm : (K[k].1.toList == L[j].1.toList) with _ | _
              · have HN : Box ((L.take (j + 1)).any (prmOk K[k]) = false) := box (by rw [anyM_more hjl, HFB.out]; unfold prmOk; rw [hnm]; rfl)
                go_wp2
                go_quiet (fail)
                go_wp2
                go_roundw
                case rel => exact ⟨j + 1, by go_num, by omega, by rw [HN.out], BI.out.trans ((below_drewN _ _).mono hbs)⟩
                case measure => simp [intOf]; omega
              · obtain ⟨x, hx⟩ : ∃ x, foldL K[k].2.data.toList L[j].2.data.toList = x := ⟨_, rfl⟩
                have HX := box hx
                have HN : Box ((L.take (j + 1)).any (prmOk K[k]) = x) := box (by rw [anyM_more hjl, HFB.out]; unfold prmOk; rw [hnm, hx]; rfl)
                have y1 : K[k].2.size ≤ 4294967296 := by omega
                have y2 : L[j].2.size ≤ 4294967296 := by omega
                clear hx
                go_wp2
                go_region_held3 (fun w' => w'.cell? ⟨w.heap.size, 2, none⟩ = some (.slice (some ⟨gk, ok, none⟩) K.length cp) ∧ w'.cell? ⟨w.heap.size + 1, 2, none⟩ = some (.slice (some ⟨gl, ol, none⟩) L.length cq) ∧ w'.cell? ⟨gk, ok + k * 2, none⟩ = some (.string K[k].1) ∧ w'.cell? ⟨gk, ok + k * 2 + 1, none⟩ = some (.string K[k].2) ∧ w'.cell? ⟨gl, ol + j * 2, none⟩ = some (.string L[j].1) ∧ w'.cell? ⟨gl, ol + j * 2 + 1, none⟩ = some (.string L[j].2))
                  (first | exact ⟨m0, m1, n0, n1, e0, e1⟩ | (exact ⟨(hb3.cell (p := ⟨w.heap.size, 2, none⟩) (cell_lt m0)).trans m0, (hb3.cell (p := ⟨w.heap.size + 1, 2, none⟩) (cell_lt m1)).trans m1, (hb3.cell (p := ⟨gk, ok + k * 2, none⟩) (cell_lt n0)).trans n0, (hb3.cell (p := ⟨gk, ok + k * 2 + 1, none⟩) (cell_lt n1)).trans n1, (hb3.cell (p := ⟨gl, ol + j * 2, none⟩) (cell_lt e0)).trans e0, (hb3.cell (p := ⟨gl, ol + j * 2 + 1, none⟩) (cell_lt e1)).trans e1⟩))
                  (first | (go_at_call 58; refine (rFold10_is y1 y2 HX).mono ?_; rintro e w3 ⟨rfl, hb3⟩))
                all_goals
                  go_wp2
                  go_roundw
                  case rel => exact ⟨j + 1, by go_num, by omega, by rw [HN.out], BI.out.trans ((Below.refl _ _).drew.trans (hb3.mono hbs))⟩
                  case measure => simp [intOf]; omega
            · have HN : Box ((L.take (j + 1)).any (prmOk K[k]) = true) := box (by rw [anyM_more hjl, HFB.out]; rfl)
              go_wp2
              go_quiet (fail)
              go_wp2
              go_roundw
              case rel => exact ⟨j + 1, by go_num, by omega, by rw [HN.out], BI.out.trans ((below_drewN _ _).mono hbs)⟩
              case measure => simp [intOf]; omega
          · have HJ : Box (prmIn K[k] L = fb) := box (by
              have := HFB.out
              rwa [List.take_of_length_le (by omega)] at this)
            rcases fb with _ | _
            · have HZ2 : Box ((-1 : Int) = z) := box (by rw [← HZ.out, if_neg (by rw [allM_not hlt HJ.out]; simp)])
              go_wp2
              go_ret
              exact ⟨ret_int HZ2.out, B2.out.trans ((BL.out.trans (BI.out.mono hBW)).mono B2.out.size)⟩
            · have HA2 := box (allM_more hlt HA.out HJ.out)
              go_wp2
              go_roundw
              case rel => exact ⟨k + 1, by go_num, by omega, HA2.out, BL.out.trans (BI.out.mono hBW)⟩
              case measure => simp [intOf]; omega
      · have HE : Box ((K.all fun p => prmIn p L) = true) := box (by
          have := HA.out
          rwa [List.take_of_length_le (by omega)] at this)
        have HZ2 : Box ((2 : Int) + (K.length : Int) = z) := box (by rw [← HZ.out, if_pos HE.out])
        go_wp2
        go_ret
        exact ⟨ret_int HZ2.out, B2.out.trans (BL.out.mono B2.out.size)⟩
end
section
def nmAcc : ByteArray := ⟨#[65, 99, 99, 101, 112, 116]⟩
def nmLan : ByteArray := ⟨#[65, 99, 99, 101, 112, 116, 45, 76, 97, 110, 103, 117, 97, 103, 101]⟩
def nmCha : ByteArray := ⟨#[65, 99, 99, 101, 112, 116, 45, 67, 104, 97, 114, 115, 101, 116]⟩
def nmCod : ByteArray := ⟨#[65, 99, 99, 101, 112, 116, 45, 69, 110, 99, 111, 100, 105, 110, 103]⟩
def nameK (k : Int) : ByteArray := if k = 1 then nmAcc else if k = 2 then nmLan else if k = 3 then nmCha else if k = 4 then nmCod else ⟨#[]⟩
def kindN (n : ByteArray) : Int :=
  if foldL n.data.toList nmAcc.data.toList = true then 1
  else if foldL n.data.toList nmLan.data.toList = true then 2
  else if foldL n.data.toList nmCha.data.toList = true then 3
  else if foldL n.data.toList nmCod.data.toList = true then 4 else 0
/-- the place of the first parameter q -/
def isQ (p : F) : Bool := decide (p.1 = (⟨#[113]⟩ : ByteArray))
def atQ (L : List F) : Nat := (L.takeWhile fun p => !isQ p).length
/-- the quality that the parameters say -/
def qualP (L : List F) : Option Int := if h : atQ L < L.length then qvL (L[atQ L]'h).2.data.toList else some 1000
def memP (k : Int) (s : List UInt8) : Option (ByteArray × Int) := match parL s with
  | none => none
  | some (v, L) => match qualP L with
    | none => none
    | some q =>
      if k = 1 then match rangeL v with
        | none => none
        | some (a, b, _) => some (fmtPB (a ++ (⟨#[47]⟩ : ByteArray) ++ b) (L.take (atQ L)), q)
      else if ((if k = 2 then rangeT v else tokL v) && decide (atQ L = 0)) = true then some (bs (canL k v), q) else none
/-- specificity -/
def matchP (k : Int) (r v : List UInt8) : Int :=
  if k = 1 then (match rangeL r, mediaL v with
    | some a, some b => matchI a b
    | _, _ => -1)
  else if k = 2 then matchT r v
  else if k = 3 ∨ k = 4 then (if (tokL r && tokL v && decide (v ≠ [42])) = true then matchC k r v else -1)
  else -1
/-- a preference as a member -/
def onePref (p : ByteArray × Int) : List UInt8 := p.1.data.toList ++ (if p.2 = 1000 then [] else 59 :: 113 :: 61 :: fmtQ p.2)
theorem atQ_le (L : List F) : atQ L ≤ L.length := by
  unfold atQ
  have := congrArg List.length (List.takeWhile_append_dropWhile (p := fun p => !isQ p) (l := L))
  rw [List.length_append] at this; omega
theorem atQ_is : ∀ {L : List F} {k : Nat}, (∀ j (hj : j < L.length), j < k → isQ L[j] = false) → (k = L.length ∨ ∃ hk : k < L.length, isQ L[k] = true) → atQ L = k
  | [], k, _, h => by
    rcases h with h | ⟨hk, _⟩
    · simp at h; subst h; rfl
    · simp at hk
  | p :: L, 0, _, h => by
    rcases h with h | ⟨_, h⟩
    · simp at h
    · have h' : isQ p = true := h
      unfold atQ
      rw [List.takeWhile_cons, if_neg (by rw [h']; simp)]; rfl
  | p :: L, k + 1, hn, h => by
    have h0 : isQ p = false := hn 0 (by simp) (by omega)
    have ih : atQ L = k := atQ_is (L := L) (k := k) (fun j hj hjk => hn (j + 1) (by simpa using hj) (by omega)) (by
      rcases h with h | ⟨hk, h⟩
      · left; simpa using h
      · right; exact ⟨by simpa using hk, h⟩)
    unfold atQ at ih ⊢
    rw [List.takeWhile_cons, if_pos (by rw [h0]; rfl), List.length_cons, ih]
theorem mem_none {k : Int} {s : List UInt8} (h : parL s = none) : memP k s = none := by unfold memP; rw [h]
theorem mem_noq {k : Int} {s v : List UInt8} {L : List F} (h : parL s = some (v, L)) (hq : qualP L = none) : memP k s = none := by unfold memP; rw [h]; simp only; rw [hq]
theorem mem_acc {s v : List UInt8} {L : List F} {q : Int} (h : parL s = some (v, L)) (hq : qualP L = some q) : memP 1 s = (rangeL v).map fun m => (fmtPB (m.1 ++ (⟨#[47]⟩ : ByteArray) ++ m.2.1) (L.take (atQ L)), q) := by
  unfold memP; rw [h]; simp only; rw [hq]; simp only
  rw [if_pos trivial]
  cases rangeL v with
  | none => rfl
  | some m => obtain ⟨a, b, K⟩ := m; rfl
theorem mem_oth {k : Int} {s v : List UInt8} {L : List F} {q : Int} (hk : k ≠ 1) (h : parL s = some (v, L)) (hq : qualP L = some q) : memP k s = if ((if k = 2 then rangeT v else tokL v) && decide (atQ L = 0)) = true then some (bs (canL k v), q) else none := by
  unfold memP; rw [h]; simp only; rw [hq]; simp only
  rw [if_neg hk]
end
section
open Go.RowKit
def allB (nm : ByteArray) (L : List F) : List ByteArray := (allL nm L).map bs
/-- the first k members more, as long as there is room -/
theorem room_more {A M : List (List UInt8)} {k : Nat} (h : k < M.length) (hl : ((A ++ M.take k).take 64).length < 64) : (A ++ M.take (k + 1)).take 64 = (A ++ M.take k).take 64 ++ [M[k]] := by
  have h1 : (A ++ M.take k).length < 64 := by rw [List.length_take] at hl; omega
  have e : M.take (k + 1) = M.take k ++ [M[k]] := by rw [List.take_add_one, List.getElem?_eq_getElem h]; rfl
  rw [e, ← List.append_assoc, List.take_of_length_le (l := A ++ M.take k) (by omega), List.take_of_length_le (by rw [List.length_append]; simp only [List.length_cons, List.length_nil]; omega)]
theorem room_full {A M : List (List UInt8)} {k : Nat} (hl : ((A ++ M.take k).take 64).length = 64) : (A ++ M).take 64 = (A ++ M.take k).take 64 := by
  have h1 : 64 ≤ (A ++ M.take k).length := by rw [List.length_take] at hl; omega
  have e : A ++ M = (A ++ M.take k) ++ M.drop k := by rw [List.append_assoc, List.take_append_drop]
  rw [e, List.take_append_of_le_length h1]
def AllRel (vs : List ByteArray) (B : Nat) (w : World) (v i : Value) (wr : World) : Prop :=
  ∃ k : Nat, i = .int .i64 k ∧ k ≤ vs.length ∧ OwnS wr B v (((allF (vs.take k)).take 64).map bs) ∧ Below w.heap.size w wr
/-- a list of strings of the call's own, whose block does not lie from lo on below hi; what lies there stays -/
def OwnX (w : World) (B lo hi : Nat) (v : Value) (L : List ByteArray) : Prop := OwnS w B v L ∧ ∀ k, v.ownBlock = some k → k < lo ∨ hi ≤ k
def Mid (lo hi : Nat) (w w' : World) : Prop := ∀ k, lo ≤ k → k < hi → w'.heap[k]? = w.heap[k]?
theorem wpList_append_strX (w : World) {ops : Array Oper} {rest : List Oper} {o : Oper} {a : Act} {Q : Exit → Act → World → Prop} (hgd : o.guard = none) (s x : Operand)
    (ho : o.op = .call { callee := .builtin .append, args := #[s, x], argTypes := #[29, 29] })
    (B lo hi : Nat) (v : Value) (L : List ByteArray) (hs : a.eval s = v) (hown : OwnX w B lo hi v L)
    (g : Nat) (c : Nat) (hx : a.eval x = .slice (some ⟨g, 0, none⟩) 1 c) (u : ByteArray) (h0 : w.cell? ⟨g, 0, none⟩ = some (.string u)) (hl : L.length ≤ 65536) (hB : B ≤ w.heap.size) (hhi : hi ≤ w.heap.size)
    (h : ∀ v' w', OwnX w' B lo hi v' (L ++ [u]) → Below B w w' → Mid lo hi w w' → wpList Tryz.prog ops Q rest (a.put o.dst v') w') : wpList Tryz.prog ops Q (o :: rest) a w := by
  obtain ⟨i0, hi0, hz0, hz1, hz2⟩ := info_parts info_str
  refine wpList_append_lies (P := Tryz.prog) w hgd s x 29 ho B 9 i0 _ 1 16 Tryz.underlying29 hi0 hz0 hz1 hz2 rfl (by decide) v L.length (L.map Value.string) hs hown.1 ⟨g, 0, none⟩ 1 c [.string u] hx rfl ?_ ?_ (by omega) (by unfold maxLen; omega) (by omega) hB _ rfl ?_
  · intro j u hj
    match j, hj with
    | 0, hj => simp at hj; subst hj; simpa [Addr.add] using h0
  · intro u hu; simp at hu; subst hu; rfl
  · intro g' cap w' q1 q2 q3 _
    refine h _ w' ⟨by simpa [OwnS] using q1, fun k hk => ?_⟩ ((Below.refl _ _).grown q2 hB (fun k hk => own_block hown.1 k hk)) (fun k h1 h2 => q2.block k (by omega) (fun e => ?_))
    · simp [Value.ownBlock] at hk
      subst hk
      rcases q3 with q3 | q3
      · exact hown.2 _ q3
      · right; omega
    · rcases hown.2 k e.symm with q | q <;> omega
def InRel (A M : List (List UInt8)) (B lo hi : Nat) (w : World) (v i : Value) (wr : World) : Prop :=
  ∃ k : Nat, i = .int .i64 k ∧ k ≤ M.length ∧ OwnX wr B lo hi v (((A ++ M.take k).take 64).map bs) ∧ Below B w wr ∧ Mid lo hi w wr
set_option maxHeartbeats 4000000 in
theorem rAll_any (a : Option Addr) (cap : Nat) (L : List F) (nm : ByteArray) (w : World) (S : Box (Sm L)) (hv : Box (∀ x ∈ getL nm L, x.size ≤ 65000)) (M : Box (nm.size ≤ 65536)) (hF : Box (Fs w a L)) :
    Calls Tryz.prog 30 #[.slice a L.length cap, .string nm] w fun e w' => ∃ v, e = .returned v ∧ OwnS w' w.heap.size v (allB nm L) ∧ Below w.heap.size w w' := by
  obtain ⟨vs, hvs⟩ : ∃ vs, getL nm L = vs := ⟨_, rfl⟩
  have HVS := box hvs
  have HAL : Box (allB nm L = ((allF vs).take 64).map bs) := box (by unfold allB allL; rw [hvs])
  have hvl : vs.length ≤ 65536 := by
    have := get_le (nm := nm) (L := L) (k := L.length)
    rw [List.take_length, hvs] at this
    have := S.out.1; omega
  rw [hvs] at hv
  clear hvs
  have hl := S.out.1
  go_enter Tryz.func30, Tryz.ntmps30
  go_wp2_with fail
  refine (rGet_any a cap L nm _ hl S M hF).mono ?_; rintro e w1 ⟨v1, rfl, hO1, hb1⟩
  rw [HVS.out] at hO1
  obtain ⟨a1, cap1, rfl, hS1, hc1⟩ := hO1.ss
  have S1 := box hS1
  have B1 := box hb1
  have hB1 := hb1.size
  clear hO1 hS1 hb1
  go_wp2
  go_loopw [5, 7] (fun v i wr => AllRel vs w1.heap.size w1 v i wr) (fun _ i _ => vs.length - (intOf i).toNat)
  case atStart => exact ⟨0, rfl, Nat.zero_le _, OwnS.nil _ _, Below.refl _ _⟩
  case round =>
    obtain ⟨wo, rfl⟩ : ∃ wo, wo = wr := ⟨_, rfl⟩
    obtain ⟨k, rfl, hk, hO, hbel⟩ := hrel
    have O0 := box hO
    have BL := box hbel
    have hBw := hbel.size
    clear hO hbel
    by_cases hlt : k < vs.length
    · obtain ⟨q, off, rfl, c0⟩ := (S1.out.below BL.out) k hlt
      have hxz := hv.out vs[k] (List.getElem_mem hlt)
      have HN := box (allF_more hlt)
      obtain ⟨A, hA⟩ : ∃ A, (allF (vs.take k)).take 64 = A := ⟨_, rfl⟩
      have hA64 : A.length ≤ 64 := by rw [← hA, List.length_take]; omega
      have HA64 : Box (A = (A ++ ([] : List (List UInt8))).take 64) := box (by rw [List.append_nil, List.take_of_length_le hA64])
      rw [hA] at HN O0
      clear hA hA64
      go_wp2_with fail
      refine (rSplit_any vs[k] _ hxz).mono ?_; rintro e w2 ⟨v2, rfl, hO2, hb2⟩
      obtain ⟨MM, hMM⟩ : ∃ MM, splitL vs[k].data.toList = MM := ⟨_, rfl⟩
      have hM64 : MM.length ≤ 64 := by rw [← hMM]; exact split_len _
      unfold splitB at hO2
      rw [hMM] at hO2 HN
      obtain ⟨a2, cap2, rfl, hS2, hc2⟩ := hO2.ss
      rw [List.length_map] at hc2 ⊢
      have S2 := box hS2
      have hblk : ∀ q2 off2, a2 = some ⟨q2, off2, none⟩ → wo.heap.size ≤ q2 := fun q2 off2 e => own_block hO2 q2 (by rw [e]; rfl)
      have HBK := box hblk
      have OX : Box (OwnX w2 w1.heap.size wo.heap.size w2.heap.size _ (A.map bs)) := box ⟨own_below O0.out hb2, fun k hk => .inl (World.ownsRow.lt O0.out k hk).2⟩
      have B2 := box (BL.out.trans (hb2.mono BL.out.size))
      have hB2 := Nat.le_trans hBw hb2.size
      clear hO2 hS2 hb2 hMM c0 hblk
      go_wp2
      go_loopw [5, 9] (fun v i wi => InRel A MM w1.heap.size wo.heap.size w2.heap.size w2 v i wi) (fun _ i _ => MM.length - (intOf i).toNat)
      case atStart => exact ⟨0, rfl, Nat.zero_le _, by rw [List.take_zero, ← HA64.out]; exact OX.out, Below.refl _ _, fun _ _ _ => rfl⟩
      case round =>
        obtain ⟨j, rfl, hj, hO, hbel, hmid⟩ := hrel
        obtain ⟨O, hOl⟩ : ∃ O, (A ++ MM.take j).take 64 = O := ⟨_, rfl⟩
        rw [hOl] at hO
        have HOL := box hOl
        have ho64 : O.length ≤ 64 := by rw [← hOl, List.length_take]; omega
        obtain ⟨av, cv, rfl, _, _⟩ := hO.1.ss
        rw [List.length_map] at hO ⊢
        have O1 := box hO
        have B3 := box hbel
        have hmw := box hmid
        have hsz3 := hbel.size
        clear hO hbel hmid hOl
        by_cases hjl : j < MM.length
        · by_cases hm : O.length = 64
          · have hmi : ¬ (O.length : Int) < 64 := by omega
            have HF : Box ((A ++ MM).take 64 = O) := box (by rw [room_full (k := j) (by rw [HOL.out]; exact hm), HOL.out])
            clear hm
            go_wp2
            go_roundw
            case rel => exact ⟨k + 1, by go_num, by omega, by rw [HN.out, HF.out]; exact O1.out.1, B2.out.trans B3.out⟩
            case measure => simp [intOf]; omega
          · have hmi : (O.length : Int) < 64 := by omega
            obtain ⟨q2, off2, rfl, c1⟩ := S2.out j (by rw [List.length_map]; exact hjl)
            have hq1 := HBK.out q2 off2 rfl
            have hq2 : q2 < w2.heap.size := cell_lt c1
            have c2 : wr.cell? ⟨q2, off2 + j, none⟩ = some (.string (bs MM[j])) := by
              rw [World.cell?_of_block (w := w2) (hmw.out q2 hq1 hq2), c1, List.getElem_map]
            have HN2 : Box (((A ++ MM.take (j + 1)).take 64).map bs = O.map bs ++ [bs MM[j]]) := box (by
              rw [room_more hjl (by rw [HOL.out]; omega), HOL.out, List.map_append, List.map_cons, List.map_nil])
            have hm6 : Box ((O.map bs).length ≤ 65536) := box (by rw [List.length_map]; omega)
            have hB3 := B3.out.size
            have HBW : Box (w1.heap.size ≤ wr.heap.size) := box (Nat.le_trans hB2 hsz3)
            clear c1 hm
            go_wp2_with (at_builtin; refine wpList_append_strX _ rfl (.tmp 35) (.tmp 40) rfl w1.heap.size wo.heap.size w2.heap.size _ (O.map bs) rfl ?a1 _ _ rfl (bs MM[j]) ?b1 ?c1 ?d1 ?e1 ?_)
            case a1 => exact ⟨own_below O1.out.1 (below_new _ _), O1.out.2⟩
            case b1 => go_simp
            case c1 => exact hm6.out
            case d1 => have := HBW.out; simp; omega
            case e1 => simp; omega
            intro v4 w4 hO4 hb4 hm4
            have O4 := box hO4
            have B4 := box ((B3.out.alloc HBW.out _).trans hb4)
            have M4 : Box (Mid wo.heap.size w2.heap.size w2 w4) := box (fun k h1 h2 => by
              rw [hm4 k h1 h2, ← hmw.out k h1 h2]
              exact (below_new wr _).block k (by omega))
            clear hO4 hb4 hm4 c2
            go_wp2
            go_roundw
            case rel => exact ⟨j + 1, by go_num, by omega, by rw [HN2.out]; exact O4.out, B4.out, M4.out⟩
            case measure => simp [intOf]; omega
        · have HF : Box ((A ++ MM).take 64 = O) := box (by rw [← HOL.out, List.take_of_length_le (l := MM) (by omega)])
          go_wp2
          go_roundw
          case rel => exact ⟨k + 1, by go_num, by omega, by rw [HN.out, HF.out]; exact O1.out.1, B2.out.trans B3.out⟩
          case measure => simp [intOf]; omega
    · have HF : Box ((allF (vs.take k)).take 64 = (allF vs).take 64) := box (by rw [List.take_of_length_le (l := vs) (by omega)])
      rw [HF.out] at O0
      go_wp2
      go_ret
      exact ⟨_, rfl, by rw [HAL.out]; exact Go.Joins.ownsRow_le O0.out hB1, B1.out.trans (BL.out.mono hB1)⟩
end
section
open Go.RowKit
def joinB (L : List ByteArray) : ByteArray := bs (joinC (L.map fun x => x.data.toList))
def JoiRel (L : List ByteArray) (v i : Value) : Prop := ∃ (k : Nat) (x : ByteArray), i = .int .i64 k ∧ v = .string x ∧ k ≤ L.length ∧ x.data.toList = joinC ((L.map fun x => x.data.toList).take k) ∧ x.size ≤ 65540 * k
theorem bs_is {x : ByteArray} {l : List UInt8} (h : x.data.toList = l) : x = bs l := by subst h; rfl
set_option maxHeartbeats 1000000 in
theorem rJoin7_any (a : Option Addr) (cap : Nat) (L : List ByteArray) (w : World) (hl : L.length ≤ 65536) (hz : Box (∀ x ∈ L, x.size ≤ 65536)) (hF : Box (Ss w a L)) :
    Calls Tryz.prog 74 #[.slice a L.length cap] w fun e w' => e = .returned (.string (joinB L)) ∧ w = w' := by
  obtain ⟨ms, hms⟩ : ∃ ms, (L.map fun x => x.data.toList) = ms := ⟨_, rfl⟩
  have HMS := box hms
  have hml : ms.length = L.length := by rw [← hms, List.length_map]
  go_enter Tryz.func74, Tryz.ntmps74
  go_wp2
  go_loop [3, 4] (fun v i => JoiRel L v i) (fun _ i => L.length - (intOf i).toNat)
  case atStart => exact ⟨0, ⟨#[]⟩, rfl, rfl, Nat.zero_le _, rfl, Nat.zero_le _⟩
  case round =>
    obtain ⟨k, x, rfl, rfl, hk, hx, hxz⟩ := hrel
    rw [hms] at hx
    have HX := box hx
    clear hx
    by_cases hlt : k < L.length
    · obtain ⟨q, off, rfl, c0⟩ := hF.out k hlt
      have hLz := hz.out L[k] (List.getElem_mem hlt)
      have hmk : ms[k]'(by omega) = L[k].data.toList := by simp only [← hms, List.getElem_map]
      have hjm := joinC_more (ms := ms) (k := k) (by omega)
      rw [hmk] at hjm
      by_cases hk0 : k = 0
      · have hki : ¬ (0 : Int) < (k : Int) := by omega
        have hx0 : x.data.toList = [] := by rw [HX.out, hk0]; rfl
        have r1 : ∀ w, (Op.stringOp .add x L[k]).run Tryz.prog w = .ok (.string (x ++ L[k])) w := fun w => run_string_add_sum w _ _ (by show x.size + L[k].size ≤ 9223372036854775807; omega)
        have HN : Box ((x ++ L[k]).data.toList = joinC (ms.take (k + 1))) := box (by rw [hjm, if_pos hk0]; simp [ByteArray.data_append, hx0])
        have HS : Box ((x ++ L[k]).size ≤ 65540 * (k + 1)) := box (by rw [ByteArray.size_append]; omega)
        clear hx0 hk0 hjm hmk
        go_wp2
        go_round
        case rel => exact ⟨k + 1, _, by go_num, rfl, by omega, by rw [HMS.out]; exact HN.out, HS.out⟩
        case measure => simp [intOf]; omega
      · have hki : (0 : Int) < (k : Int) := by omega
        have e2 : (⟨#[44, 32]⟩ : ByteArray).size = 2 := rfl
        have hs1 : (x ++ (⟨#[44, 32]⟩ : ByteArray)).size = x.size + 2 := by rw [ByteArray.size_append, e2]
        have r0 : ∀ w, (Op.stringOp .add x ⟨#[44, 32]⟩).run Tryz.prog w = .ok (.string (x ++ ⟨#[44, 32]⟩)) w := fun w => run_string_add_sum w _ _ (by show x.size + 2 ≤ 9223372036854775807; omega)
        have r1 : ∀ w, (Op.stringOp .add (x ++ ⟨#[44, 32]⟩) L[k]).run Tryz.prog w = .ok (.string (x ++ ⟨#[44, 32]⟩ ++ L[k])) w := fun w => run_string_add_sum w _ _ (by rw [hs1]; show x.size + 2 + L[k].size ≤ 9223372036854775807; omega)
        have HN : Box ((x ++ ⟨#[44, 32]⟩ ++ L[k]).data.toList = joinC (ms.take (k + 1))) := box (by rw [hjm, if_neg hk0, ← HX.out]; simp [ByteArray.data_append])
        have HS : Box ((x ++ ⟨#[44, 32]⟩ ++ L[k]).size ≤ 65540 * (k + 1)) := box (by rw [ByteArray.size_append, hs1]; omega)
        clear e2 hs1 hk0 hjm hmk
        go_wp2
        go_round
        case rel => exact ⟨k + 1, _, by go_num, rfl, by omega, by rw [HMS.out]; exact HN.out, HS.out⟩
        case measure => simp [intOf]; omega
    · have HE : Box (joinB L = x) := box (by unfold joinB; rw [hms, ← List.take_of_length_le (l := ms) (i := k) (by omega)]; exact (bs_is HX.out).symm)
      go_wp2
      go_ret
      exact ⟨by rw [HE.out]; rfl, rfl⟩
end
section
open Go.RowKit
def okS (x : ByteArray) : Bool := decide (x.size ≤ 100)
def keepS (L : List ByteArray) : Bool := decide (L.length ≤ 20) && L.all okS
theorem keepS_bad {L : List ByteArray} {k : Nat} (h : k < L.length) (e : ¬ L[k].size ≤ 100) : keepS L = false := by
  unfold keepS
  have : L.all okS = false := by
    rw [List.all_eq_false]
    exact ⟨L[k], List.getElem_mem h, by unfold okS; simpa using e⟩
  rw [this, Bool.and_false]
theorem keepS_long {L : List ByteArray} (h : ¬ L.length ≤ 20) : keepS L = false := by unfold keepS; rw [decide_eq_false h, Bool.false_and]
theorem keepS_more {L : List ByteArray} {k : Nat} (h : k < L.length) (ha : (L.take k).all okS = true) (e : L[k].size ≤ 100) : (L.take (k + 1)).all okS = true := by
  rw [List.take_add_one, List.getElem?_eq_getElem h, List.all_append, ha]
  simp [okS, e]
theorem keepS_end {L : List ByteArray} (ha : (L.take L.length).all okS = true) (h : L.length ≤ 20) : keepS L = true := by
  rw [List.take_length] at ha
  unfold keepS; rw [ha, decide_eq_true h]; rfl
theorem keepS_small {L : List ByteArray} (h : keepS L = true) : L.length ≤ 20 ∧ ∀ x ∈ L, x.size ≤ 100 := by
  unfold keepS at h
  rw [Bool.and_eq_true, decide_eq_true_eq, List.all_eq_true] at h
  exact ⟨h.1, fun x hx => by have := h.2 x hx; unfold okS at this; simpa using this⟩
theorem keepStrings_any (a : Option Addr) (cap : Nat) (L : List ByteArray) (w : World) (hl : L.length ≤ maxLen) (hF : Box (Ss w a L)) :
    Calls Tryz.prog 17 #[.slice a L.length cap] w fun e w' => e = .returned (.bool (keepS L)) ∧ w = w' := by
  unfold maxLen at hl
  go_enter Tryz.func17, Tryz.ntmps17
  go_wp2
  go_loop [3] (fun i => ∃ k : Nat, k ≤ L.length ∧ k ≤ 21 ∧ i = .int .i64 k ∧ (L.take k).all okS = true) (fun i => 21 - (intOf i).toNat)
  case atStart => exact ⟨0, Nat.zero_le _, Nat.zero_le _, rfl, rfl⟩
  case round =>
    obtain ⟨k, hk, hk71, rfl, hall⟩ := hrel
    have HA := box hall
    clear hall
    by_cases hlt : k < L.length
    · by_cases h71 : k < 21
      · obtain ⟨g, off, rfl, c0⟩ := hF.out k hlt
        by_cases e1 : L[k].size ≤ 100
        · have ei : ¬ (100 : Int) < (L[k].size : Int) := by omega
          have HN := box (keepS_more hlt HA.out e1)
          clear e1
          go_wp2
          go_round
          case rel => exact ⟨k + 1, by omega, by omega, by go_num, HN.out⟩
          case measure => simp [intOf]; omega
        · have ei : (100 : Int) < (L[k].size : Int) := by omega
          have HN := box (keepS_bad hlt e1)
          clear e1
          go_wp2
          go_ret
          exact ⟨ret_bool HN.out.symm, rfl⟩
      · go_wp2
        go_ret
        exact ⟨ret_bool (by rw [keepS_long (by omega)]; simp; omega), rfl⟩
    · have e : k = L.length := by omega
      have E := box e
      clear e
      by_cases h70 : L.length ≤ 20
      · go_wp2
        go_ret
        refine ⟨ret_bool ?_, rfl⟩
        have ha := HA.out
        rw [E.out] at ha
        rw [keepS_end ha h70]
        simp; omega
      · go_wp2
        go_ret
        exact ⟨ret_bool (by rw [keepS_long h70]; simp; omega), rfl⟩
end
section
abbrev AX := ByteArray × List ByteArray
def noB : ByteArray := ⟨#[]⟩
def qName : ByteArray := ⟨#[113]⟩
def atS (L : List ByteArray) (i : Nat) : ByteArray := L.getD i noB
def atP (L : List F) (i : Nat) : ByteArray := (L.getD i (noB, noB)).1
def atA (L : List AX) (i : Nat) : AX := L.getD i (noB, [])
/-- the first k names of parameters differ from the one at i -/
def newP (L : List F) (i k : Nat) : Bool := (List.range k).all fun j => decide (atP L i ≠ atP L j)
/-- the first n parameters have names of their own, none of them q -/
def ownP (L : List F) (n : Nat) : Bool := (List.range n).all fun i => newP L i i && decide (atP L i ≠ qName)
def valueV (n x : ByteArray) : Bool :=
  if kindN n = 1 then (mediaL x.data.toList).isSome && ownP (ofM (mediaL x.data.toList)).2.2 (ofM (mediaL x.data.toList)).2.2.length
  else if kindN n = 2 then tagL x.data.toList
  else if kindN n = 3 ∨ kindN n = 4 then tokL x.data.toList && decide (x ≠ star)
  else decide (1 ≤ x.size) && decide (x.size ≤ 100) && textL x.data.toList && decide (trimL x.data.toList = x.data.toList)
def sameV (n x y : ByteArray) : Bool :=
  if kindN n = 1 ∨ kindN n = 2 then foldL x.data.toList y.data.toList
  else if kindN n = 3 ∨ kindN n = 4 then decide (canL (kindN n) x.data.toList = canL (kindN n) y.data.toList)
  else decide (x = y)
/-- the value at i is the Same as none of the first k -/
def newV (n : ByteArray) (V : List ByteArray) (i k : Nat) : Bool := (List.range k).all fun j => !sameV n (atS V i) (atS V j)
def valsV (n : ByteArray) (V : List ByteArray) (m : Nat) : Bool := (List.range m).all fun i => valueV n (atS V i) && newV n V i i
def headV (n : ByteArray) (V : List ByteArray) : Bool := tokL n.data.toList && decide (lowL n.data.toList = n.data.toList) && decide (1 ≤ V.length) && decide (V.length ≤ 16)
def validA (x : AX) : Bool := headV x.1 x.2 && valsV x.1 x.2 x.2.length
def newA (L : List AX) (i k : Nat) : Bool := (List.range k).all fun j => decide ((atA L i).1 ≠ (atA L j).1)
def axesV (L : List AX) (m : Nat) : Bool := (List.range m).all fun i => validA (atA L i) && newA L i i
def validX (L : List AX) : Bool := decide (1 ≤ L.length) && decide (L.length ≤ 4) && axesV L L.length
theorem range_more (n : Nat) (f : Nat → Bool) : (List.range (n + 1)).all f = ((List.range n).all f && f n) := by
  rw [List.range_succ, List.all_append]; simp
theorem newP_more (L : List F) (i k : Nat) : newP L i (k + 1) = (newP L i k && decide (atP L i ≠ atP L k)) := range_more _ _
theorem ownP_more (L : List F) (n : Nat) : ownP L (n + 1) = (ownP L n && (newP L n n && decide (atP L n ≠ qName))) := range_more _ _
theorem newV_more (n : ByteArray) (V : List ByteArray) (i k : Nat) : newV n V i (k + 1) = (newV n V i k && !sameV n (atS V i) (atS V k)) := range_more _ _
theorem valsV_more (n : ByteArray) (V : List ByteArray) (m : Nat) : valsV n V (m + 1) = (valsV n V m && (valueV n (atS V m) && newV n V m m)) := range_more _ _
theorem newA_more (L : List AX) (i k : Nat) : newA L i (k + 1) = (newA L i k && decide ((atA L i).1 ≠ (atA L k).1)) := range_more _ _
theorem axesV_more (L : List AX) (m : Nat) : axesV L (m + 1) = (axesV L m && (validA (atA L m) && newA L m m)) := range_more _ _
theorem range_no {n i : Nat} {f : Nat → Bool} (h : i < n) (hf : f i = false) : (List.range n).all f = false := by
  rw [List.all_eq_false]; exact ⟨i, List.mem_range.2 h, by simp [hf]⟩
theorem atS_is {L : List ByteArray} {i : Nat} (h : i < L.length) : atS L i = L[i] := by unfold atS; simp [h]
theorem atP_is {L : List F} {i : Nat} (h : i < L.length) : atP L i = L[i].1 := by unfold atP; simp [h]
theorem atA_is {L : List AX} {i : Nat} (h : i < L.length) : atA L i = L[i] := by unfold atA; simp [h]
def okA (x : AX) : Bool := decide (x.1.size ≤ 100) && keepS x.2
def keepA (L : List AX) : Bool := L.all okA && decide (L.length ≤ 6)
theorem keepA_more {L : List AX} {k : Nat} (h : k < L.length) (ha : (L.take k).all okA = true) (h1 : L[k].1.size ≤ 100) (h2 : keepS L[k].2 = true) : (L.take (k + 1)).all okA = true := by
  rw [take_next h, List.all_append, ha]
  simp [okA, h1, h2]
theorem keepA_bad {L : List AX} {k : Nat} (h : k < L.length) (h1 : okA L[k] = false) : keepA L = false := by
  have : L.all okA = false := by rw [List.all_eq_false]; exact ⟨L[k], List.getElem_mem h, by simp [h1]⟩
  unfold keepA; rw [this]; rfl
theorem keepA_long {L : List AX} (h : ¬ L.length ≤ 6) : keepA L = false := by unfold keepA; simp [h]
theorem keepA_end {L : List AX} (ha : (L.take L.length).all okA = true) (h : L.length ≤ 6) : keepA L = true := by
  rw [List.take_length] at ha
  unfold keepA; rw [ha]; simp [h]
theorem keepA_parts {L : List AX} (h : keepA L = true) : L.length ≤ 6 ∧ ∀ i (hi : i < L.length), L[i].1.size ≤ 100 ∧ L[i].2.length ≤ 20 ∧ ∀ x ∈ L[i].2, x.size ≤ 100 := by
  unfold keepA at h
  simp only [Bool.and_eq_true, decide_eq_true_eq] at h
  refine ⟨h.2, fun i hi => ?_⟩
  have := List.all_eq_true.mp h.1 L[i] (List.getElem_mem hi)
  unfold okA at this
  rw [Bool.and_eq_true, decide_eq_true_eq] at this
  exact ⟨this.1, keepS_small this.2⟩
theorem choose_list {α : Type} {P : Nat → α → Prop} : ∀ n, (∀ i, i < n → ∃ x, P i x) → ∃ L : List α, L.length = n ∧ ∀ i (h : i < L.length), P i L[i]
  | 0, _ => ⟨[], rfl, fun i h => absurd h (by simp)⟩
  | n + 1, h => by
    obtain ⟨L, hl, hL⟩ := choose_list n (fun i hi => h i (by omega))
    obtain ⟨x, hx⟩ := h n (by omega)
    refine ⟨L ++ [x], by simp [hl], fun i hi => ?_⟩
    by_cases e : i < L.length
    · rw [List.getElem_append_left e]; exact hL i e
    · have : i = n := by rw [List.length_append] at hi; simp at hi; omega
      subst this
      rw [List.getElem_append_right (by omega)]
      simpa using hx
end
section
open Go.RowKit Go.ChangeShapes Go.WideShapes Go.Deep
abbrev QP := ByteArray × Int
/-- preferences at an address -/
def Qs (w : World) (a : Option Addr) (L : List QP) : Prop :=
  ∀ i (h : i < L.length), ∃ g off, a = some ⟨g, off, none⟩ ∧ w.cell? ⟨g, off + i * 2, none⟩ = some (.string L[i].1) ∧ w.cell? ⟨g, off + i * 2 + 1, none⟩ = some (.int .i64 L[i].2)
theorem Qs.below {w w' : World} {a : Option Addr} {L : List QP} (h : Qs w a L) (hb : Below w.heap.size w w') : Qs w' a L := fun i hi => by
  obtain ⟨g, off, e, c0, c1⟩ := h i hi
  exact ⟨g, off, e, (hb.cell (cell_lt c0)).trans c0, (hb.cell (cell_lt c1)).trans c1⟩
theorem info_prf : (Tryz.prog.info? 55).map (fun i => (i.zero, i.size, i.bytes)) = some (some (.agg #[.string ⟨#[]⟩, .int .i64 0]), 2, 24) := by kernel_rfl
def cellsQ (L : List QP) : List Value := L.flatMap fun p => [.string p.1, .int .i64 p.2]
theorem cellsQ_len (L : List QP) : (cellsQ L).length = L.length * 2 := by
  induction L with
  | nil => rfl
  | cons p L ih => simp only [cellsQ, List.flatMap_cons, List.length_append, List.length_cons, List.length_nil] at *; omega
theorem cellsQ_app (L M : List QP) : cellsQ (L ++ M) = cellsQ L ++ cellsQ M := by simp [cellsQ]
theorem cellsQ_at (L : List QP) (i : Nat) (h : i < L.length) : (cellsQ L)[i * 2]? = some (.string L[i].1) ∧ (cellsQ L)[i * 2 + 1]? = some (.int .i64 L[i].2) := by
  have e : L = L.take i ++ L[i] :: L.drop (i + 1) := by rw [← List.drop_eq_getElem_cons h, List.take_append_drop]
  have hl : (cellsQ (L.take i)).length = i * 2 := by rw [cellsQ_len, List.length_take, Nat.min_eq_left (Nat.le_of_lt h)]
  have e2 : cellsQ L = cellsQ (L.take i) ++ (.string L[i].1 :: .int .i64 L[i].2 :: cellsQ (L.drop (i + 1))) := by
    conv => lhs; rw [e, cellsQ_app]
    rfl
  rw [e2]
  constructor
  · rw [List.getElem?_append_right (by omega), hl]; simp
  · rw [List.getElem?_append_right (by omega), hl]; simp
def OwnQ (w : World) (B : Nat) (v : Value) (L : List QP) : Prop := w.ownsRow B 55 2 v L.length (cellsQ L)
section
variable {w w' : World} {B : Nat} {v : Value}
theorem OwnQ.nil (w : World) (B : Nat) : OwnQ w B (.slice none 0 0) [] := World.ownsRow_nil _ _ _ _
/-- what a slice of preferences that a call owns looks like -/
theorem OwnQ.qs {L : List QP} (h : OwnQ w B v L) : ∃ a cap, v = .slice a L.length cap ∧ Qs w a L ∧ L.length ≤ cap := by
  rcases h.2 with ⟨rfl, hn⟩ | ⟨g, cap, cur, rfl, hB, hg, hc, hm, hs, ht⟩
  · exact ⟨none, 0, by rw [hn], fun i hi => by omega, by omega⟩
  · refine ⟨_, cap, rfl, fun i hi => ⟨g, 0, rfl, ?_, ?_⟩, hc⟩
    all_goals
      obtain ⟨q0, q1⟩ := cellsQ_at L i hi
      rw [← ht] at q0 q1
      rw [List.getElem?_take] at q0 q1
      rw [if_pos (by omega)] at q0 q1
      simp only [World.cell?, hg]
    · simpa using q0
    · simpa [Nat.add_assoc] using q1
end
/-- append of one preference that lies in a block of its own -/
theorem wpList_append_prf (w : World) {ops : Array Oper} {rest : List Oper} {o : Oper} {a : Act} {Q : Exit → Act → World → Prop} (hgd : o.guard = none) (s x : Operand)
    (ho : o.op = .call { callee := .builtin .append, args := #[s, x], argTypes := #[50, 50] })
    (B : Nat) (v : Value) (L : List QP) (hs : a.eval s = v) (hown : OwnQ w B v L)
    (g : Nat) (c : Nat) (hx : a.eval x = .slice (some ⟨g, 0, none⟩) 1 c) (n : ByteArray) (u : Int) (h0 : w.cell? ⟨g, 0, none⟩ = some (.string n)) (h1 : w.cell? ⟨g, 1, none⟩ = some (.int .i64 u)) (hl : L.length ≤ 65536) (hB : B ≤ w.heap.size)
    (h : ∀ v' w', OwnQ w' B v' (L ++ [(n, u)]) → Below B w w' → wpList Tryz.prog ops Q rest (a.put o.dst v') w') : wpList Tryz.prog ops Q (o :: rest) a w := by
  obtain ⟨i0, hi0, hz0, hz1, hz2⟩ := info_parts info_prf
  refine wpList_append_own (P := Tryz.prog) w hgd s x 50 ho B 55 i0 _ 2 24 Tryz.underlying50 hi0 hz0 hz1 hz2 rfl (by decide) v L.length (cellsQ L) hs hown ⟨g, 0, none⟩ 1 c [.string n, .int .i64 u] hx rfl ?_ ?_ (by unfold maxLen; omega) (by omega) hB ?_
  · intro j u hj
    match j, hj with
    | 0, hj => simp at hj; subst hj; simpa [Addr.add] using h0
    | 1, hj => simp at hj; subst hj; simpa [Addr.add] using h1
  · intro u hu; simp at hu; rcases hu with rfl | rfl <;> rfl
  · intro v' w' q1 q2 _
    refine h v' w' (by simpa [OwnQ, cellsQ_app, cellsQ] using q1) ((Below.refl _ _).grown q2 hB (fun k hk => own_block hown k hk))
end
section
open Go.RowKit
/-- two values lie at the block's start, and may be written -/
def C2 (g : Nat) (c0 c1 : Value) (w : World) : Prop :=
  (w.cell? ⟨g, 0, none⟩ = some c0 ∧ w.cell? ⟨g, 1, none⟩ = some c1) ∧ (w.frozen? ⟨g, 0, none⟩ = false ∧ w.frozen? ⟨g, 1, none⟩ = false)
section
variable {g B : Nat} {c0 c1 : Value} {w w' : World}
theorem C2.new (c0 c1 : Value) (w : World) (t : TypeId) : C2 w.heap.size c0 c1 (w.alloc (.cells #[c0, c1] t)) := by
  refine ⟨⟨?_, ?_⟩, ⟨?_, ?_⟩⟩
  all_goals first
    | (rw [World.cell?_alloc_mark]; rfl)
    | exact World.frozen?_alloc_at _ _ _ _ rfl
theorem C2.below (f : C2 g c0 c1 w) (hb : Below B w w') (hg : g < B) : C2 g c0 c1 w' := by
  obtain ⟨⟨h0, h1⟩, ⟨f0, f1⟩⟩ := f
  exact ⟨⟨(hb.cell hg).trans h0, (hb.cell hg).trans h1⟩, ⟨(hb.frozen hg).trans f0, (hb.frozen hg).trans f1⟩⟩
theorem C2.lt (f : C2 g c0 c1 w) : g < w.heap.size := cell_lt (p := ⟨g, 0, none⟩) f.1.1
theorem C2.next (f : C2 g c0 c1 w) (hb : Below w.heap.size w w') : C2 g c0 c1 w' := f.below hb f.lt
end
theorem below2 {w w1 : World} {g : Nat} (h : Below w.heap.size w w1) (hg : w.heap.size ≤ g) (v0 v1 : Value) : Below w.heap.size w ((w1.setCell ⟨g, 0, none⟩ v0).setCell ⟨g, 1, none⟩ v1) :=
  (h.setCell (p := ⟨g, 0, none⟩) hg v0).setCell (p := ⟨g, 1, none⟩) hg v1
theorem name_no {k : Int} (h1 : ¬ k = 1) (h2 : ¬ k = 2) (h3 : ¬ k = 3) (h4 : ¬ k = 4) : nameK k = ⟨#[]⟩ := by unfold nameK; rw [if_neg h1, if_neg h2, if_neg h3, if_neg h4]
theorem rName_any (k : Int) (w : World) (hk : InI64 k) :
    Calls Tryz.prog 26 #[.int .i64 k] w fun e w' => e = .returned (.string (nameK k)) ∧ w = w' := by
  by_cases h1 : k = 1
  · subst h1
    go_enter Tryz.func26, Tryz.ntmps26
    go_wp2
    go_ret
    exact ⟨rfl, rfl⟩
  · by_cases h2 : k = 2
    · subst h2
      go_enter Tryz.func26, Tryz.ntmps26
      go_wp2
      go_ret
      exact ⟨rfl, rfl⟩
    · by_cases h3 : k = 3
      · subst h3
        go_enter Tryz.func26, Tryz.ntmps26
        go_wp2
        go_ret
        exact ⟨rfl, rfl⟩
      · by_cases h4 : k = 4
        · subst h4
          go_enter Tryz.func26, Tryz.ntmps26
          go_wp2
          go_ret
          exact ⟨rfl, rfl⟩
        · have HV := box (name_no h1 h2 h3 h4)
          have e1 : (k == 1) = false := by rw [beq_eq_false_iff_ne]; exact h1
          have e2 : (k == 2) = false := by rw [beq_eq_false_iff_ne]; exact h2
          have e3 : (k == 3) = false := by rw [beq_eq_false_iff_ne]; exact h3
          have e4 : (k == 4) = false := by rw [beq_eq_false_iff_ne]; exact h4
          clear h1 h2 h3 h4
          go_enter Tryz.func26, Tryz.ntmps26
          go_wp2
          go_ret
          exact ⟨by rw [HV.out]; rfl, rfl⟩
theorem rName_is {k : Int} {x : ByteArray} {w : World} (hk : InI64 k) (h : Box (nameK k = x)) :
    Calls Tryz.prog 26 #[.int .i64 k] w fun e w' => e = .returned (.string x) ∧ w = w' :=
  (rName_any k w hk).mono fun e w' ⟨h1, h2⟩ => ⟨by rw [h1, h.out], h2⟩
theorem rFold13_is {a b : ByteArray} {q : Bool} {w : World} (ha : a.size ≤ 4294967296) (hb : b.size ≤ 4294967296) (h : Box (foldL a.data.toList b.data.toList = q)) :
    Calls Tryz.prog 58 #[.string a, .string b] w fun e w' => e = .returned (.bool q) ∧ Below w.heap.size w w' :=
  (rFold_any a b w ha hb).mono fun e w' ⟨h1, h2⟩ => ⟨by rw [h1, h.out], h2⟩
/-- the names ahead of j are others -/
def KdRel (n : ByteArray) (W : World) (i : Value) (wr : World) : Prop := ∃ j : Nat, i = .int .i64 j ∧ 1 ≤ j ∧ j ≤ 5 ∧ (∀ i : Nat, 1 ≤ i → i < j → foldL n.data.toList (nameK i).data.toList = false) ∧ Below W.heap.size W wr
theorem kind_at {n : ByteArray} {j : Nat} (h1 : 1 ≤ j) (h5 : j ≤ 4) (hn : ∀ i : Nat, 1 ≤ i → i < j → foldL n.data.toList (nameK i).data.toList = false) (h : foldL n.data.toList (nameK j).data.toList = true) : kindN n = (j : Int) := by
  have k1 := hn 1; have k2 := hn 2; have k3 := hn 3
  unfold kindN
  obtain rfl | rfl | rfl | rfl : j = 1 ∨ j = 2 ∨ j = 3 ∨ j = 4 := by omega
  · have h' : foldL n.data.toList nmAcc.data.toList = true := h
    rw [if_pos h']; rfl
  · have k1' : foldL n.data.toList nmAcc.data.toList = false := k1 (by omega) (by omega)
    have h' : foldL n.data.toList nmLan.data.toList = true := h
    rw [if_neg (by rw [k1']; simp), if_pos h']; rfl
  · have k1' : foldL n.data.toList nmAcc.data.toList = false := k1 (by omega) (by omega)
    have k2' : foldL n.data.toList nmLan.data.toList = false := k2 (by omega) (by omega)
    have h' : foldL n.data.toList nmCha.data.toList = true := h
    rw [if_neg (by rw [k1']; simp), if_neg (by rw [k2']; simp), if_pos h']; rfl
  · have k1' : foldL n.data.toList nmAcc.data.toList = false := k1 (by omega) (by omega)
    have k2' : foldL n.data.toList nmLan.data.toList = false := k2 (by omega) (by omega)
    have k3' : foldL n.data.toList nmCha.data.toList = false := k3 (by omega) (by omega)
    have h' : foldL n.data.toList nmCod.data.toList = true := h
    rw [if_neg (by rw [k1']; simp), if_neg (by rw [k2']; simp), if_neg (by rw [k3']; simp), if_pos h']; rfl
theorem kind_no {n : ByteArray} (hn : ∀ i : Nat, 1 ≤ i → i < 5 → foldL n.data.toList (nameK i).data.toList = false) : kindN n = 0 := by
  have k1 : foldL n.data.toList nmAcc.data.toList = false := hn 1 (by omega) (by omega)
  have k2 : foldL n.data.toList nmLan.data.toList = false := hn 2 (by omega) (by omega)
  have k3 : foldL n.data.toList nmCha.data.toList = false := hn 3 (by omega) (by omega)
  have k4 : foldL n.data.toList nmCod.data.toList = false := hn 4 (by omega) (by omega)
  unfold kindN
  rw [if_neg (by rw [k1]; simp), if_neg (by rw [k2]; simp), if_neg (by rw [k3]; simp), if_neg (by rw [k4]; simp)]
theorem name_size (k : Int) : (nameK k).size ≤ 15 := by
  unfold nameK
  split
  · decide
  · split
    · decide
    · split
      · decide
      · split
        · decide
        · decide
theorem rKind_any (n : ByteArray) (w : World) (hn : n.size ≤ 4294967296) :
    Calls Tryz.prog 27 #[.string n] w fun e w' => e = .returned (.int .i64 (kindN n)) ∧ Below w.heap.size w w' := by
  go_enter Tryz.func27, Tryz.ntmps27
  go_wp2
  go_loopw [3] (fun i wr => KdRel n w i wr) (fun i _ => 5 - (intOf i).toNat)
  case atStart => exact ⟨1, rfl, Nat.le_refl _, by omega, fun i h1 h2 => by omega, Below.refl _ _⟩
  case round =>
    obtain ⟨j, rfl, h1, h5, hno, hbel⟩ := hrel
    have HNO := box hno
    have BL := box hbel
    clear hno hbel
    by_cases h4 : j ≤ 4
    · have h4i : (j : Int) ≤ 4 := by omega
      have hji : InI64 (j : Int) := ⟨by omega, by omega⟩
      obtain ⟨x, hx⟩ : ∃ x, nameK j = x := ⟨_, rfl⟩
      have HX := box hx
      have hxz : x.size ≤ 4294967296 := by have := name_size j; rw [hx] at this; omega
      clear hx
      cases hf : foldL n.data.toList x.data.toList with
      | true =>
        have HF := box hf
        have HV : Box (kindN n = (j : Int)) := box (kind_at h1 h4 HNO.out (by rw [HX.out]; exact hf))
        clear hf
        go_wp2_with fail
        refine (rName_is hji HX).mono ?_; rintro e w1 ⟨rfl, rfl⟩
        go_wp2_with fail
        refine (rFold13_is hn hxz HF).mono ?_; rintro e w2 ⟨rfl, hb2⟩
        have B2 := box (BL.out.trans (hb2.mono BL.out.size))
        clear hb2
        go_wp2
        go_ret
        exact ⟨by rw [HV.out]; rfl, B2.out⟩
      | false =>
        have HF := box hf
        have HN2 : Box (∀ i : Nat, 1 ≤ i → i < j + 1 → foldL n.data.toList (nameK i).data.toList = false) := box (fun i hi1 hi2 => by
          by_cases e : i = j
          · subst e; rw [HX.out]; exact HF.out
          · exact HNO.out i hi1 (by omega))
        clear hf
        go_wp2_with fail
        refine (rName_is hji HX).mono ?_; rintro e w1 ⟨rfl, rfl⟩
        go_wp2_with fail
        refine (rFold13_is hn hxz HF).mono ?_; rintro e w2 ⟨rfl, hb2⟩
        have B2 := box (BL.out.trans (hb2.mono BL.out.size))
        clear hb2
        go_wp2
        go_roundw
        case rel => exact ⟨j + 1, by go_num, by omega, by omega, HN2.out, B2.out⟩
        case measure => simp [intOf]; omega
    · have h4i : ¬ (j : Int) ≤ 4 := by omega
      have HV : Box (kindN n = 0) := box (kind_no fun i hi1 hi2 => HNO.out i hi1 (by omega))
      go_wp2
      go_ret
      exact ⟨by rw [HV.out]; rfl, BL.out⟩
end
section
open Go.RowKit
theorem rMatch_any (a b c d : ByteArray) (p q : Option Addr) (cp cq : Nat) (K L : List F) (w : World) (hk : K.length ≤ 65536) (hl : L.length ≤ 65536)
    (hzK : Box (∀ i (hi : i < K.length), K[i].1.size ≤ 65536 ∧ K[i].2.size ≤ 65536)) (hzL : Box (∀ i (hi : i < L.length), L[i].1.size ≤ 65536 ∧ L[i].2.size ≤ 65536)) (hK : Box (Fs w p K)) (hL : Box (Fs w q L)) :
    Calls Tryz.prog 63 #[.agg #[.string a, .string b, .slice p K.length cp], .agg #[.string c, .string d, .slice q L.length cq]] w fun e w' => e = .returned (.int .i64 (matchI (a, b, K) (c, d, L))) ∧ Below w.heap.size w w' := by
  by_cases h : (b.toList == [42]) = false ∧ (a.toList == c.toList) = true ∧ (b.toList == d.toList) = true
  · exact rMatch_late a b c d p q cp cq K L w hk hl hzK hzL hK hL _ rfl h.1 h.2.1 h.2.2
  · refine rMatch_early a b c d p q cp cq K L w 0 _ _ _ _ rfl rfl rfl rfl ?_
    rcases h2 : (b.toList == [42]) with _ | _
    · rcases h3 : (a.toList == c.toList) with _ | _
      · exact .inr (.inl rfl)
      · rcases h4 : (b.toList == d.toList) with _ | _
        · exact .inr (.inr (.inr rfl))
        · exact absurd ⟨h2, h3, h4⟩ h
    · exact .inr (.inr (.inl rfl))
end
end Go.Proofs.YtklfpkaemnhdhaaGreatDoor.Asc
