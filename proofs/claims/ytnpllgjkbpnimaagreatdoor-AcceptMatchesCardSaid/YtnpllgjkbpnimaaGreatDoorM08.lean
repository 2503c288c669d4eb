/- Merged texts: MedRef3. -/
import Derived.Test.YtnpllgjkbpnimaaGreatDoorM03
import Derived.Test.YtnpllgjkbpnimaaGreatDoorM07
set_option linter.unusedVariables false
set_option linter.unusedSimpArgs false
set_option maxRecDepth 100000
namespace Go.Proofs.YtnpllgjkbpnimaaGreatDoor.Asc
section
open Go.RowKit
def prmOk (p q : F) : Bool := p.1.toList == q.1.toList && foldL p.2.data.toList q.2.data.toList
def prmIn (p : F) (L : List F) : Bool := L.any (prmOk p)
def matchI (r t : M) : Int :=
  if (r.1.toList == [42] && r.2.1.toList == [42]) = true then 0
  else if (r.1.toList == t.1.toList) = false then -1
  else if (r.2.1.toList == [42]) = true then 1
  else if (r.2.1.toList == t.2.1.toList) = false then -1
  else if (r.2.2.all fun p => prmIn p t.2.2) = true then 2 + (r.2.2.length : Int) else -1
theorem anyM_more {α : Type} {f : α → Bool} {L : List α} {k : Nat} (h : k < L.length) : (L.take (k + 1)).any f = ((L.take k).any f || f L[k]) := by
  rw [List.take_add_one, List.getElem?_eq_getElem h, List.any_append]; simp
theorem allM_more {α : Type} {f : α → Bool} {L : List α} {k : Nat} (h : k < L.length) (ha : (L.take k).all f = true) (hf : f L[k] = true) : (L.take (k + 1)).all f = true := by
  rw [List.take_add_one, List.getElem?_eq_getElem h, List.all_append, ha]; simp [hf]
theorem allM_not {α : Type} {f : α → Bool} {L : List α} {k : Nat} (h : k < L.length) (hf : f L[k] = false) : L.all f = false := by
  rw [List.all_eq_false]; exact ⟨L[k], List.getElem_mem h, by simp [hf]⟩
theorem rFold10_is {a b : ByteArray} {q : Bool} {w : World} (ha : a.size ≤ 4294967296) (hb : b.size ≤ 4294967296) (h : Box (foldL a.data.toList b.data.toList = q)) :
    Calls Tryz.prog 36 #[.string a, .string b] w fun e w' => e = .returned (.bool q) ∧ Below w.heap.size w w' :=
  (rFold_any a b w ha hb).mono fun e w' ⟨h1, h2⟩ => ⟨by rw [h1, h.out], h2⟩
def MatO (K L : List F) (W : World) (i : Value) (wr : World) : Prop := ∃ k : Nat, i = .int .i64 k ∧ k ≤ K.length ∧ ((K.take k).all fun p => prmIn p L) = true ∧ Below W.heap.size W wr
def MatI (p : F) (L : List F) (W : World) (f i : Value) (wr : World) : Prop := ∃ k : Nat, i = .int .i64 k ∧ k ≤ L.length ∧ f = .bool ((L.take k).any (prmOk p)) ∧ Below W.heap.size W wr
/-- the ways that end before the parameters are looked at -/
theorem rMatch_early (a b c d : ByteArray) (p q : Option Addr) (cp cq : Nat) (K L : List F) (w : World) (v : Int) (q1 q2 q3 q4 : Bool) (h1 : (a.toList == [42]) = q1) (h2 : (b.toList == [42]) = q2) (h3 : (a.toList == c.toList) = q3) (h4 : (b.toList == d.toList) = q4)
    (hq : (q1 = true ∧ q2 = true) ∨ q3 = false ∨ q2 = true ∨ q4 = false) :
    Calls Tryz.prog 15 #[.agg #[.string a, .string b, .slice p K.length cp], .agg #[.string c, .string d, .slice q L.length cq]] w fun e w' => e = .returned (.int .i64 (matchI (a, b, K) (c, d, L))) ∧ Below w.heap.size w w' := by
  have B2 : Box (Below w.heap.size w ((w.alloc (.cells #[.string a, .string b, .slice p K.length cp] 33)).alloc (.cells #[.string c, .string d, .slice q L.length cq] 33))) := box ((below_new w _).alloc (below_new w _).size _)
  obtain ⟨x, hx⟩ : ∃ x, matchI (a, b, K) (c, d, L) = x := ⟨_, rfl⟩
  have HX := box hx
  unfold matchI at hx
  simp only [h1, h2, h3, h4] at hx
  rw [HX.out]
  clear HX
  cases q1 <;> cases q2 <;> cases q3 <;> cases q4
  all_goals first
    | (exfalso; simp at hq; done)
    | (simp at hx
       subst hx
       clear hq
       go_enter Tryz.func15, Tryz.ntmps15
       go_wp2
       go_ret
       exact ⟨rfl, B2.out⟩)
set_option maxHeartbeats 4000000 in
theorem rMatch_late (a b c d : ByteArray) (p q : Option Addr) (cp cq : Nat) (K L : List F) (w : World) (hk : K.length ≤ 65536) (hl : L.length ≤ 65536)
    (hzK : Box (∀ i (hi : i < K.length), K[i].1.size ≤ 65536 ∧ K[i].2.size ≤ 65536)) (hzL : Box (∀ i (hi : i < L.length), L[i].1.size ≤ 65536 ∧ L[i].2.size ≤ 65536)) (hK : Box (Fs w p K)) (hL : Box (Fs w q L))
    (q1 : Bool) (h1 : (a.toList == [42]) = q1) (h2 : (b.toList == [42]) = false) (h3 : (a.toList == c.toList) = true) (h4 : (b.toList == d.toList) = true) :
    Calls Tryz.prog 15 #[.agg #[.string a, .string b, .slice p K.length cp], .agg #[.string c, .string d, .slice q L.length cq]] w fun e w' => e = .returned (.int .i64 (matchI (a, b, K) (c, d, L))) ∧ Below w.heap.size w w' := by
  obtain ⟨W, hW⟩ : ∃ W, (w.alloc (.cells #[.string a, .string b, .slice p K.length cp] 33)).alloc (.cells #[.string c, .string d, .slice q L.length cq] 33) = W := ⟨_, rfl⟩
  have B2 : Box (Below w.heap.size w W) := box (by rw [← hW]; exact (below_new w _).alloc (below_new w _).size _)
  have G0 : Box (W.cell? ⟨w.heap.size, 2, none⟩ = some (.slice p K.length cp)) := box (by
    rw [← hW, (below_new _ _).cell (by simp), World.cell?_alloc_mark]; rfl)
  have G1 : Box (W.cell? ⟨w.heap.size + 1, 2, none⟩ = some (.slice q L.length cq)) := box (by
    rw [← hW, show w.heap.size + 1 = (w.alloc (.cells #[.string a, .string b, .slice p K.length cp] 33)).heap.size from by simp, World.cell?_alloc_mark]; rfl)
  have FK := box (hK.out.below B2.out)
  have FL := box (hL.out.below B2.out)
  have HV : Box (matchI (a, b, K) (c, d, L) = if (K.all fun p => prmIn p L) = true then 2 + (K.length : Int) else -1) := box (by
    unfold matchI; simp [h2, h3, h4])
  rw [HV.out]
  obtain ⟨z, hz⟩ : ∃ z : Int, (if (K.all fun p => prmIn p L) = true then 2 + (K.length : Int) else -1) = z := ⟨_, rfl⟩
  rw [hz]
  have HZ := box hz
  have HWB := box hW
  clear HV hW hz
  rcases q1 with _ | _
  all_goals
    go_enter Tryz.func15, Tryz.ntmps15
    go_wp2
    rw [HWB.out]
    go_loopw [5] (fun i wr => MatO K L W i wr) (fun i _ => K.length - (intOf i).toNat)
    case atStart => exact ⟨0, rfl, Nat.zero_le _, rfl, Below.refl _ _⟩
    case round =>
      obtain ⟨wo, rfl⟩ : ∃ wo, wo = wr := ⟨_, rfl⟩
      obtain ⟨k, rfl, hk2, hall, hbel⟩ := hrel
      have HA := box hall
      have BL := box hbel
      have g0 := (hbel.cell (p := ⟨w.heap.size, 2, none⟩) (cell_lt G0.out)).trans G0.out
      have g1 := (hbel.cell (p := ⟨w.heap.size + 1, 2, none⟩) (cell_lt G1.out)).trans G1.out
      have FK1 := box (FK.out.below hbel)
      clear hall hbel
      by_cases hlt : k < K.length
      · obtain ⟨gk, ok, rfl, c0, c1⟩ := FK1.out k hlt
        obtain ⟨zk1, zk2⟩ := hzK.out k hlt
        have FL1 := box (FL.out.below BL.out)
        have hBW := BL.out.size
        go_wp2
        go_loopw [6, 7] (fun f i wi => MatI K[k] L wo f i wi) (fun _ i _ => L.length - (intOf i).toNat)
        case atStart => exact ⟨0, rfl, Nat.zero_le _, rfl, Below.refl _ _⟩
        case round =>
          obtain ⟨j, rfl, hj2, rfl, hbel⟩ := hrel
          obtain ⟨fb, hfb⟩ : ∃ fb, (L.take j).any (prmOk K[k]) = fb := ⟨_, rfl⟩
          rw [hfb]
          have HFB := box hfb
          have BI := box hbel
          have m0 := (hbel.cell (p := ⟨w.heap.size, 2, none⟩) (cell_lt g0)).trans g0
          have m1 := (hbel.cell (p := ⟨w.heap.size + 1, 2, none⟩) (cell_lt g1)).trans g1
          have n0 := (hbel.cell (p := ⟨gk, ok + k * 2, none⟩) (cell_lt c0)).trans c0
          have n1 := (hbel.cell (p := ⟨gk, ok + k * 2 + 1, none⟩) (cell_lt c1)).trans c1
          have FL2 := box (FL1.out.below hbel)
          have hbs := hbel.size
          clear hbel hfb
          by_cases hjl : j < L.length
          · obtain ⟨gl, ol, rfl, e0, e1⟩ := FL2.out j hjl
            obtain ⟨zl1, zl2⟩ := hzL.out j hjl
            rcases fb with _ | _
            · rcases hnm : (K[k].1.toList == L[j].1.toList) with _ | _
              · have HN : Box ((L.take (j + 1)).any (prmOk K[k]) = false) := box (by rw [anyM_more hjl, HFB.out]; unfold prmOk; rw [hnm]; rfl)
                go_wp2
                go_quiet (fail)
                go_wp2
                go_roundw
                case rel => exact ⟨j + 1, by go_num, by omega, by rw [HN.out], BI.out.trans ((below_drewN _ _).mono hbs)⟩
                case measure => simp [intOf]; omega
              · obtain ⟨x, hx⟩ : ∃ x, foldL K[k].2.data.toList L[j].2.data.toList = x := ⟨_, rfl⟩
                have HX := box hx
                have HN : Box ((L.take (j + 1)).any (prmOk K[k]) = x) := box (by rw [anyM_more hjl, HFB.out]; unfold prmOk; rw [hnm, hx]; rfl)
                have y1 : K[k].2.size ≤ 4294967296 := by omega
                have y2 : L[j].2.size ≤ 4294967296 := by omega
                clear hx
                go_wp2
                go_region_held3 (fun w' => w'.cell? ⟨w.heap.size, 2, none⟩ = some (.slice (some ⟨gk, ok, none⟩) K.length cp) ∧ w'.cell? ⟨w.heap.size + 1, 2, none⟩ = some (.slice (some ⟨gl, ol, none⟩) L.length cq) ∧ w'.cell? ⟨gk, ok + k * 2, none⟩ = some (.string K[k].1) ∧ w'.cell? ⟨gk, ok + k * 2 + 1, none⟩ = some (.string K[k].2) ∧ w'.cell? ⟨gl, ol + j * 2, none⟩ = some (.string L[j].1) ∧ w'.cell? ⟨gl, ol + j * 2 + 1, none⟩ = some (.string L[j].2))
                  (first | exact ⟨m0, m1, n0, n1, e0, e1⟩ | (exact ⟨(hb3.cell (p := ⟨w.heap.size, 2, none⟩) (cell_lt m0)).trans m0, (hb3.cell (p := ⟨w.heap.size + 1, 2, none⟩) (cell_lt m1)).trans m1, (hb3.cell (p := ⟨gk, ok + k * 2, none⟩) (cell_lt n0)).trans n0, (hb3.cell (p := ⟨gk, ok + k * 2 + 1, none⟩) (cell_lt n1)).trans n1, (hb3.cell (p := ⟨gl, ol + j * 2, none⟩) (cell_lt e0)).trans e0, (hb3.cell (p := ⟨gl, ol + j * 2 + 1, none⟩) (cell_lt e1)).trans e1⟩))
                  (first | (go_at_call 36; refine (rFold10_is y1 y2 HX).mono ?_; rintro e w3 ⟨rfl, hb3⟩))
                all_goals
                  go_wp2
                  go_roundw
                  case rel => exact ⟨j + 1, by go_num, by omega, by rw [HN.out], BI.out.trans ((Below.refl _ _).drew.trans (hb3.mono hbs))⟩
                  case measure => simp [intOf]; omega
            · have HN : Box ((L.take (j + 1)).any (prmOk K[k]) = true) := box (by rw [anyM_more hjl, HFB.out]; rfl)
              go_wp2
              go_quiet (fail)
              go_wp2
              go_roundw
              case rel => exact ⟨j + 1, by go_num, by omega, by rw [HN.out], BI.out.trans ((below_drewN _ _).mono hbs)⟩
              case measure => simp [intOf]; omega
          · have HJ : Box (prmIn K[k] L = fb) := box (by
              have := HFB.out
              rwa [List.take_of_length_le (by omega)] at this)
            rcases fb with _ | _
            · have HZ2 : Box ((-1 : Int) = z) := box (by rw [← HZ.out, if_neg (by rw [allM_not hlt HJ.out]; simp)])
              go_wp2
              go_ret
              exact ⟨ret_int HZ2.out, B2.out.trans ((BL.out.trans (BI.out.mono hBW)).mono B2.out.size)⟩
            · have HA2 := box (allM_more hlt HA.out HJ.out)
              go_wp2
              go_roundw
              case rel => exact ⟨k + 1, by go_num, by omega, HA2.out, BL.out.trans (BI.out.mono hBW)⟩
              case measure => simp [intOf]; omega
      · have HE : Box ((K.all fun p => prmIn p L) = true) := box (by
          have := HA.out
          rwa [List.take_of_length_le (by omega)] at this)
        have HZ2 : Box ((2 : Int) + (K.length : Int) = z) := box (by rw [← HZ.out, if_pos HE.out])
        go_wp2
        go_ret
        exact ⟨ret_int HZ2.out, B2.out.trans (BL.out.mono B2.out.size)⟩
end
end Go.Proofs.YtnpllgjkbpnimaaGreatDoor.Asc
