/- Merged texts: VarAxP SelMine SelCnt SelMine2 SelMine3 GrpCon VarRef8 GrpMine ClsMine PrfApp ClsMem. -/
import Derived.Test.YtklfpkaemnhdhaaGreatDoorZa05
import Derived.Test.YtklfpkaemnhdhaaGreatDoorZa06
import Derived.Test.YtklfpkaemnhdhaaGreatDoorZa07
import Derived.Test.YtklfpkaemnhdhaaGreatDoorZa08
import Derived.Test.YtklfpkaemnhdhaaGreatDoorZa09
import Derived.Test.YtklfpkaemnhdhaaGreatDoorZa10
import Derived.Test.YtklfpkaemnhdhaaGreatDoorZa11
import Derived.Test.YtklfpkaemnhdhaaGreatDoorZa12
import Derived.Test.YtklfpkaemnhdhaaGreatDoorZa13
import Derived.Test.YtklfpkaemnhdhaaGreatDoorZa14
set_option linter.unusedVariables false
set_option linter.unusedSimpArgs false
set_option maxRecDepth 100000
namespace Go.Proofs.YtklfpkaemnhdhaaGreatDoor.Asc
section
open Go.RowKit
def lowT (n : ByteArray) : Bool := tokL n.data.toList && decide (lowL n.data.toList = n.data.toList)
theorem lowTok_any (n : ByteArray) (z : Bool) (w : World) (hn : n.size ≤ 65000) (hz : Box (lowT n = z)) :
    Calls Tryz.prog 100 #[.string n] w fun e w' => e = .returned (.bool z) ∧ Below w.heap.size w w' := by
  obtain ⟨q, hq⟩ : ∃ q, tokL n.data.toList = q := ⟨_, rfl⟩
  obtain ⟨x, hx⟩ : ∃ x, bs (lowL n.data.toList) = x := ⟨_, rfl⟩
  obtain ⟨p, hp⟩ : ∃ p, (x.toList == n.toList) = p := ⟨_, rfl⟩
  have HZ : Box (z = (q && p)) := box (by
    rw [← hz.out]
    unfold lowT
    rw [hq, ← hp, ← hx, toList_bs, toList_data]
    congr 1
    by_cases e : lowL n.data.toList = n.data.toList
    · rw [decide_eq_true e, beq_iff_eq.2 e]
    · rw [decide_eq_false e, beq_eq_false_iff_ne.2 e])
  have HQ := box hq
  have HX := box hx
  have HM : Box (n.size ≤ maxLen) := box (by unfold maxLen; omega)
  have hn4 : n.size ≤ 4294967296 := by omega
  clear hq hx hz
  rw [HZ.out]
  clear HZ
  go_enter Tryz.func100, Tryz.ntmps100
  go_wp2_with fail
  refine (aToken_is HM.out HQ).mono ?_; rintro e w1 ⟨rfl, rfl⟩
  cases q with
  | false =>
    go_wp2
    go_ret
    exact ⟨rfl, Below.refl _ _⟩
  | true =>
    go_wp2_with fail
    refine (aLower_is hn4 HX).mono ?_; rintro e w2 ⟨rfl, hb2⟩
    have B2 := box hb2
    clear hb2
    go_wp2
    go_ret
    exact ⟨rfl, B2.out⟩
/-- the forms of the first j values -/
def inV (n : ByteArray) (V : List ByteArray) (j : Nat) : ByteArray → Bool := fun f => (List.range j).any fun i => decide (formF n (atS V i) = f)
theorem inV_more (n : ByteArray) (V : List ByteArray) (j : Nat) (f : ByteArray) : andS (inV n V j) (formF n (atS V j)) f = inV n V (j + 1) f := by
  unfold andS inV
  rw [List.range_succ, List.any_append]
  simp only [List.any_cons, List.any_nil, Bool.or_false]
  congr 1
  exact decide_eq_decide.2 ⟨Eq.symm, Eq.symm⟩
theorem any_not_all {l : List Nat} {p q : Nat → Bool} (h : ∀ i, p i = !q i) : l.all p = !l.any q := by
  induction l with
  | nil => rfl
  | cons a l ih => rw [List.all_cons, List.any_cons, ih, h, Bool.not_or]
theorem inV_at (n : ByteArray) (V : List ByteArray) (j : Nat) : newV n V j j = !inV n V j (formF n (atS V j)) := by
  unfold newV inV
  refine any_not_all fun i => ?_
  rw [form_same]
  congr 1
  exact decide_eq_decide.2 ⟨Eq.symm, Eq.symm⟩
def VaAx (n : ByteArray) (V : List ByteArray) (W : World) (b : Nat) (i : Value) (wr : World) : Prop :=
  ∃ j : Nat, i = .int .i64 j ∧ j ≤ V.length ∧ Box (valsV n V j = true) ∧ Box (SSet wr b j (inV n V j)) ∧ Box (Below W.heap.size W wr)
set_option maxHeartbeats 2000000 in
theorem validAx_any (n : ByteArray) (a : Option Addr) (c : Nat) (V : List ByteArray) (z : Bool) (w : World) (hn : n.size ≤ 65000) (hl : V.length ≤ 65536) (hz : Box (∀ i (hi : i < V.length), V[i].size ≤ 65000)) (hF : Box (Ss w a V)) (hv : Box (validA (n, V) = z)) :
    Calls Tryz.prog 67 #[.agg #[.string n, .slice a V.length c]] w fun e w' => e = .returned (.bool z) ∧ Below w.heap.size w w' := by
  obtain ⟨q, hq⟩ : ∃ q, lowT n = q := ⟨_, rfl⟩
  obtain ⟨p, hp⟩ : ∃ p, (decide (1 ≤ (V.length : Int)) && decide ((V.length : Int) ≤ 16)) = p := ⟨_, rfl⟩
  have HH : Box (headV n V = (q && p)) := box (by
    unfold headV
    rw [← hq, ← hp]
    unfold lowT
    rw [Bool.and_assoc (tokL n.data.toList && decide (lowL n.data.toList = n.data.toList))]
    congr 1
    congr 1
    · exact decide_eq_decide.2 (by omega)
    · exact decide_eq_decide.2 (by omega))
  have HQ := box hq
  have HP := box hp
  have B0 := box (below_new w (.cells #[.string n, .slice a V.length c] 39))
  have hC := C2.new (.string n) (.slice a V.length c) w 39
  clear hq hp
  go_enter Tryz.func67, Tryz.ntmps67
  go_wp2_with fail
  refine (lowTok_any n q _ hn HQ).mono ?_; rintro e w1 ⟨rfl, hb1⟩
  have C1 := box (hC.next hb1)
  have B1 := box (B0.out.trans (hb1.mono B0.out.size))
  clear hC hb1
  obtain ⟨⟨r0, r1⟩, _⟩ := C1.out
  cases q with
  | false =>
    have HZ : Box (z = false) := box (by rw [← hv.out]; unfold validA; rw [show headV (n, V).1 (n, V).2 = false from HH.out]; rfl)
    go_wp2
    go_ret
    exact ⟨by rw [HZ.out]; rfl, B1.out⟩
  | true =>
    go_wp2_with fail
    refine (from1_is HP).mono ?_; rintro e w2 ⟨rfl, rfl⟩
    cases p with
    | false =>
      have HZ : Box (z = false) := box (by rw [← hv.out]; unfold validA; rw [show headV (n, V).1 (n, V).2 = false from HH.out]; rfl)
      go_wp2
      go_ret
      exact ⟨by rw [HZ.out]; rfl, B1.out⟩
    | true =>
      have HZ : Box (valsV n V V.length = z) := box (by rw [← hv.out]; unfold validA; rw [show headV (n, V).1 (n, V).2 = true from HH.out]; rfl)
      go_wp2_with fail
      refine (ruleOf_any n _ hn).mono ?_; rintro e w3 ⟨v, rfl, ⟨T, r, fn, rfl, hFm, hM, hCf⟩, hb3⟩
      have B3 := box (B1.out.trans (hb3.mono B1.out.size))
      have HF := box hFm
      obtain ⟨⟨s0, s1⟩, _⟩ := C1.out.next hb3
      clear hb3 hFm r0 r1
      have hmm := makeMap15 w3
      obtain ⟨b, hb⟩ : ∃ b, w3.heap.size = b := ⟨_, rfl⟩
      have hwb : w.heap.size ≤ b := by rw [← hb]; exact B3.out.size
      have hM3 := below_new w3 (.map #[] 0)
      have S4 : Box (SSet (w3.alloc (.map #[] 0)) b 0 (inV n V 0)) := box (by
        have h := SSet.made w3
        rw [hb] at h
        exact h.same (fun s => rfl))
      have B4 := box (B3.out.trans (hM3.mono B3.out.size))
      have t0 := (hM3.cell (cell_lt s0)).trans s0
      have t1 := (hM3.cell (cell_lt s1)).trans s1
      rw [hb] at hmm
      have HB := box hb
      clear hM3 s0 s1 hb
      go_wp2
      go_loopw [27] (fun i wr => VaAx n V w b i wr) (fun i _ => V.length - (intOf i).toNat)
      case atStart => exact ⟨0, rfl, Nat.zero_le _, box rfl, S4, B4⟩
      case round =>
        obtain ⟨j, rfl, hj, HO, hS, hB⟩ := hrel
        clear t0 t1
        by_cases hlt : j < V.length
        · obtain ⟨g, off, rfl, c0⟩ := (hF.out.below hB.out) j hlt
          have hs1 := hz.out j hlt
          have hat := atS_is hlt
          have hno := inV_at n V j
          have hmo := valsV_more n V j
          obtain ⟨x, hx⟩ : ∃ x, V[j] = x := ⟨_, rfl⟩
          rw [hx] at c0 hs1 hat
          rw [hat] at hno hmo
          obtain ⟨f, hf⟩ : ∃ f, formF n x = f := ⟨_, rfl⟩
          obtain ⟨p, hp⟩ : ∃ p, valueV n x = p := ⟨_, rfl⟩
          obtain ⟨d, hd⟩ : ∃ d, inV n V j f = d := ⟨_, rfl⟩
          rw [hf, hd] at hno
          rw [hp, hno] at hmo
          have HMO := box hmo
          have HFP := box (And.intro hf hp)
          have HD := box hd
          have HSM : Box (f.size ≤ maxLen) := box (by
            have := form_size (n := n) hs1
            rw [hf] at this
            unfold maxLen; omega)
          have HJM : Box (j < maxLen) := box (by unfold maxLen; omega)
          have HIN : Box (∀ g, andS (inV n V j) f g = inV n V (j + 1) g) := box (fun g => by rw [← hf, ← hat]; exact inV_more n V j g)
          have hw1 := hS.out.lt
          clear hno hmo hf hp hd hat hx
          go_wp2_with fail
          refine (form_is HF.out hs1 HFP).mono ?_; rintro e w5 ⟨rfl, hb5⟩
          have S5 := box (hS.out.below hb5 hw1)
          have B5 := box (hB.out.trans (hb5.mono (Nat.le_trans hwb (Nat.le_of_lt hw1))))
          clear hb5 c0
          cases p with
          | false =>
            have HZ2 : Box (z = false) := box (by
              rw [← HZ.out]
              exact vals_no hlt (by
                have := HMO.out
                rw [valsV_more, HO.out] at this
                simpa using this))
            go_wp2
            go_ret
            exact ⟨by rw [HZ2.out]; rfl, B5.out⟩
          | true =>
            go_wp2_with fail
            refine (add_any b j (inV n V j) f d _ HSM.out HJM.out S5 HD).mono ?_; rintro e w6 ⟨rfl, hS6, hb6⟩
            have S6 := box (hS6.same HIN.out)
            have B6 := box (B5.out.trans (hb6.mono hwb))
            clear hS6 hb6
            cases d with
            | true =>
              have HZ2 : Box (z = false) := box (by
                rw [← HZ.out]
                exact vals_no hlt (by
                  have := HMO.out
                  rw [valsV_more, HO.out] at this
                  simpa using this))
              go_wp2
              go_ret
              exact ⟨by rw [HZ2.out]; rfl, B6.out⟩
            | false =>
              have HO2 : Box (valsV n V (j + 1) = true) := box (by rw [HMO.out, HO.out]; rfl)
              go_wp2
              go_roundw
              case rel => exact ⟨j + 1, by go_num, by omega, HO2, S6, B6⟩
              case measure => simp [intOf]; omega
        · obtain rfl : j = V.length := by omega
          have HZ2 : Box (z = true) := box (by rw [← HZ.out]; exact HO.out)
          go_wp2
          go_ret
          exact ⟨by rw [HZ2.out]; rfl, hB.out⟩
/-- the names of the first j axes -/
def inA (L : List AX) (j : Nat) : ByteArray → Bool := fun x => (List.range j).any fun i => decide ((atA L i).1 = x)
theorem inA_more (L : List AX) (j : Nat) (x : ByteArray) : andS (inA L j) (atA L j).1 x = inA L (j + 1) x := by
  unfold andS inA
  rw [List.range_succ, List.any_append]
  simp only [List.any_cons, List.any_nil, Bool.or_false]
  congr 1
  exact decide_eq_decide.2 ⟨Eq.symm, Eq.symm⟩
theorem inA_at (L : List AX) (j : Nat) : newA L j j = !inA L j (atA L j).1 := by
  unfold newA inA
  refine any_not_all fun i => ?_
  by_cases e : (atA L j).1 = (atA L i).1
  · simp [e]
  · rw [decide_eq_true e, decide_eq_false (fun h => e h.symm)]; rfl
def VaLi (L : List AX) (W : World) (i : Value) (wr : World) : Prop :=
  ∃ j : Nat, i = .int .i64 j ∧ j ≤ L.length ∧ Box (axesV L j = true) ∧ Box (SSet wr W.heap.size j (inA L j)) ∧ Box (Below W.heap.size W wr)
set_option maxHeartbeats 2000000 in
theorem mValid_any (a : Option Addr) (cap : Nat) (L : List AX) (w : World) (hl : L.length ≤ 65536) (hz : Box (smallA L)) (hF : Box (Axs w a L)) :
    Calls Tryz.prog 34 #[.slice a L.length cap] w fun e w' => e = .returned (.bool (validX L)) ∧ Below w.heap.size w w' := by
  obtain ⟨z, hv⟩ : ∃ z, validX L = z := ⟨_, rfl⟩
  obtain ⟨p, hp⟩ : ∃ p, (decide (1 ≤ (L.length : Int)) && decide ((L.length : Int) ≤ 4)) = p := ⟨_, rfl⟩
  have HV : Box (z = (p && axesV L L.length)) := box (by
    rw [← hv, ← hp]
    unfold validX
    congr 1
    congr 1
    · exact decide_eq_decide.2 (by omega)
    · exact decide_eq_decide.2 (by omega))
  have HP := box hp
  rw [hv]
  clear hp hv
  have hmm := makeMap15 w
  have S1 : Box (SSet (w.alloc (.map #[] 0)) w.heap.size 0 (inA L 0)) := box ((SSet.made w).same (fun s => rfl))
  have B1 := box (below_new w (.map #[] 0))
  go_enter Tryz.func34, Tryz.ntmps34
  go_wp2_with fail
  refine (from1_is HP).mono ?_; rintro e w1 ⟨rfl, rfl⟩
  cases p with
  | false =>
    go_wp2
    go_ret
    exact ⟨by rw [HV.out]; rfl, Below.refl _ _⟩
  | true =>
    have HZ : Box (axesV L L.length = z) := box (by rw [HV.out]; rfl)
    clear HV
    go_wp2
    go_loopw [13] (fun i wr => VaLi L w i wr) (fun i _ => L.length - (intOf i).toNat)
    case atStart => exact ⟨0, rfl, Nat.zero_le _, box rfl, S1, B1⟩
    case round =>
      obtain ⟨j, rfl, hj, HO, hS, hB⟩ := hrel
      by_cases hlt : j < L.length
      · obtain ⟨g, off, u, rfl, c0, c1, b, cc, rfl, hss, _⟩ := (hF.out.below hB.out) j hlt
        obtain ⟨z1, z2, z3⟩ := hz.out j hlt
        have hat := atA_is hlt
        have hno := inA_at L j
        have hmo := axesV_more L j
        have hin := inA_more L j
        obtain ⟨⟨nm, V⟩, hx⟩ : ∃ x, L[j] = x := ⟨_, rfl⟩
        rw [hx] at hat
        have e1 : L[j].1 = nm := by rw [hx]
        have e2 : L[j].2 = V := by rw [hx]
        rw [e1] at c0 z1
        have z4 : ∀ i (hi : i < V.length), V[i].size ≤ 65000 := fun i hi => by subst e2; exact z3 i hi
        clear z3
        rw [e2] at c1 z2 hss
        rw [hat] at hno hmo hin
        simp only at hno hin
        obtain ⟨p, hp⟩ : ∃ p, validA (nm, V) = p := ⟨_, rfl⟩
        obtain ⟨d, hd⟩ : ∃ d, inA L j nm = d := ⟨_, rfl⟩
        rw [hd] at hno
        rw [hp, hno] at hmo
        have HMO := box hmo
        have HPV := box hp
        have HD := box hd
        have HIN := box hin
        have HSM : Box (nm.size ≤ maxLen) := box (by unfold maxLen; omega)
        have HJM : Box (j < maxLen) := box (by unfold maxLen; omega)
        have HZ4 := box z4
        have hw1 := hS.out.lt
        have BN := box (below_new wr (.cells #[.string nm, .slice b V.length cc] 39))
        have hC := C2.new (.string nm) (.slice b V.length cc) wr 39
        have HSS := box (hss.below BN.out)
        clear hno hmo hp hd hin hat hx e1 e2 z4 hss
        go_wp2_with fail
        refine (validAx_any nm b cc V p _ z1 z2 HZ4 HSS HPV).mono ?_; rintro e w5 ⟨rfl, hb5⟩
        have hb6 := BN.out.trans (hb5.mono BN.out.size)
        have S5 := box (hS.out.below hb6 hw1)
        have B5 := box (hB.out.trans (hb6.mono (Nat.le_of_lt hw1)))
        obtain ⟨⟨r0, r1⟩, _⟩ := hC.next hb5
        clear hb5 hb6 c0 c1 hC
        cases p with
        | false =>
          have HZ2 : Box (z = false) := box (by
            rw [← HZ.out]
            exact axes_no hlt (by
              have := HMO.out
              rw [axesV_more, HO.out] at this
              simpa using this))
          go_wp2
          go_ret
          exact ⟨by rw [HZ2.out]; rfl, B5.out⟩
        | true =>
          go_wp2_with fail
          refine (add_any w.heap.size j (inA L j) nm d _ HSM.out HJM.out S5 HD).mono ?_; rintro e w6 ⟨rfl, hS6, hb6⟩
          have S6 := box (hS6.same HIN.out)
          have B6 := box (B5.out.trans hb6)
          clear hS6 hb6 r0 r1
          cases d with
          | true =>
            have HZ2 : Box (z = false) := box (by
              rw [← HZ.out]
              exact axes_no hlt (by
                have := HMO.out
                rw [axesV_more, HO.out] at this
                simpa using this))
            go_wp2
            go_ret
            exact ⟨by rw [HZ2.out]; rfl, B6.out⟩
          | false =>
            have HO2 : Box (axesV L (j + 1) = true) := box (by rw [HMO.out, HO.out]; rfl)
            go_wp2
            go_roundw
            case rel => exact ⟨j + 1, by go_num, by omega, HO2, S6, B6⟩
            case measure => simp [intOf]; omega
      · obtain rfl : j = L.length := by omega
        have HZ2 : Box (z = true) := box (by rw [← HZ.out]; exact HO.out)
        go_wp2
        go_ret
        exact ⟨by rw [HZ2.out]; rfl, hB.out⟩
end
section
open Go.RowKit
theorem hasS_take {V : List ByteArray} {x : ByteArray} {k : Nat} (h : k < V.length) : hasS (V.take (k + 1)) x = (hasS (V.take k) x || decide (V[k] = x)) := by
  unfold hasS
  rw [List.take_succ_eq_append_getElem h, List.any_append]
  simp
theorem hasS_at {V : List ByteArray} {x : ByteArray} {k : Nat} (h : k < V.length) (hx : V[k] = x) : hasS V x = true := hasS_iff.2 (by rw [← hx]; exact List.getElem_mem h)
def IxPost (V : List ByteArray) (x : ByteArray) (e : Ending) : Prop := (hasS V x = false ∧ e = .returned (.int .i64 (-1))) ∨ (hasS V x = true ∧ ∃ j : Nat, e = .returned (.int .i64 j))
def IxRel (V : List ByteArray) (x : ByteArray) (W : World) (i : Value) (wr : World) : Prop := ∃ k : Nat, k ≤ V.length ∧ i = .int .i64 k ∧ hasS (V.take k) x = false ∧ wr = W
set_option maxHeartbeats 800000 in
theorem index17_any (a : Option Addr) (cap : Nat) (V : List ByteArray) (x : ByteArray) (w : World) (hl : V.length ≤ 65536) (hV : Box (Ss w a V)) :
    Calls Tryz.prog 134 #[.slice a V.length cap, .string x] w fun e w' => IxPost V x e ∧ w' = w := by
  go_enter Tryz.func134, Tryz.ntmps134
  go_wp2
  go_loopw [8] (fun i wr => IxRel V x w i wr) (fun i _ => V.length - (intOf i).toNat)
  case atStart => exact ⟨0, Nat.zero_le _, rfl, rfl, rfl⟩
  case round =>
    obtain ⟨k, hk, rfl, hno, rfl⟩ := hrel
    have HNO := box hno
    clear hno
    by_cases hlt : k < V.length
    · have hki : (k : Int) < (V.length : Int) := by omega
      have hk0 : (0 : Int) ≤ (k : Int) := by omega
      obtain ⟨y, hy⟩ : ∃ y, V[k] = y := ⟨_, rfl⟩
      obtain ⟨g, off, rfl, c0⟩ := hV.out k hlt
      rw [hy] at c0
      rcases hq : (x.toList == y.toList) with _ | _
      · have HN2 : Box (hasS (V.take (k + 1)) x = false) := box (by
          rw [hasS_take hlt, HNO.out, hy, Bool.false_or]
          exact decide_eq_false (fun e => by rw [e] at hq; simp at hq))
        clear hy
        go_wp2
        go_roundw
        case rel => exact ⟨k + 1, by omega, by go_num, HN2.out, rfl⟩
        case measure => simp [intOf]; omega
      · have HN2 : Box (hasS V x = true) := box (hasS_at hlt (by rw [hy]; exact (str_eq hq).symm))
        clear hy
        go_wp2
        go_ret
        exact ⟨.inr ⟨HN2.out, k, rfl⟩, rfl⟩
    · have hki : ¬ (k : Int) < (V.length : Int) := by omega
      have HN2 : Box (hasS V x = false) := box (by have := HNO.out; rw [show k = V.length from by omega, List.take_length] at this; exact this)
      go_wp2
      go_ret
      exact ⟨.inl ⟨HN2.out, rfl⟩, rfl⟩
theorem contains17_is {a : Option Addr} {cap n : Nat} {V : List ByteArray} {x : ByteArray} {q : Bool} {w : World} (hl : V.length ≤ 65536) (hV : Ss w a V) (h : Box (hasS V x = q)) (hn : Box (V.length = n)) :
    Calls Tryz.prog 109 #[.slice a n cap, .string x] w fun e w' => e = .returned (.bool q) ∧ w' = w := by
  have HI := index17_any a cap V x w hl (box hV)
  rw [hn.out] at HI
  have HB := box HI
  clear HI
  go_enter Tryz.func109, Tryz.ntmps109
  go_wp2_with fail
  refine HB.out.mono ?_; rintro e w1 ⟨hp, rfl⟩
  rcases hp with ⟨h1, rfl⟩ | ⟨h1, j, rfl⟩
  · have HQ : Box (q = false) := box (by rw [← h.out]; exact h1)
    go_wp2
    go_ret
    exact ⟨by rw [HQ.out]; rfl, rfl⟩
  · have HQ : Box (q = true) := box (by rw [← h.out]; exact h1)
    have hj : (0 : Int) ≤ (j : Int) := by omega
    go_wp2
    go_ret
    exact ⟨by rw [HQ.out]; simp, rfl⟩
theorem mKind17_is {n : ByteArray} {k : Int} {w : World} (hn : n.size ≤ 65536) (h : Box (kindN n = k)) :
    Calls Tryz.prog 107 #[.string n] w fun e w' => e = .returned (.int .i64 k) ∧ Below w.heap.size w w' :=
  mKind_is hn h
theorem mPrefs17_is {k : Int} {a : Option Addr} {cap n : Nat} {L : List F} {X : List QP} {o : Bool} {w : World} (hk : InI64 k) (FL : Box (FitL L)) (hF : Fs w a L) (hW : Wts w) (h : Box (prefsV k L = X ∧ prefsO k L = o)) (hn : Box (L.length = n)) :
    Calls Tryz.prog 42 #[.int .i64 k, .slice a n cap] w fun e w' => ∃ p c, e = .returned (.tuple #[.slice p X.length c, .bool o]) ∧ Qs w' p X ∧ Below w.heap.size w w' :=
  mPrefs_is hk (box FL.out.1) (box (FL.out.vals _)) hF hW h hn
theorem mAll17_is {a : Option Addr} {cap n : Nat} {L : List F} {nm : ByteArray} {M : List ByteArray} {w : World} (FL : Box (FitL L)) (hm : nm.size ≤ 65536) (hF : Fs w a L) (h : Box (allB nm L = M)) (hn : Box (L.length = n)) :
    Calls Tryz.prog 77 #[.slice a n cap, .string nm] w fun e w' => ∃ v, e = .returned v ∧ OwnS w' w.heap.size v M ∧ Below w.heap.size w w' := by
  have := mAll_any a cap L nm w (box FL.out.1) (vals_of (box (FL.out.vals nm))) (box hm) (box hF)
  rw [h.out, hn.out] at this; exact this
theorem mJoin17_is {a : Option Addr} {cap : Nat} {L : List ByteArray} {x : ByteArray} {w : World} (hl : L.length ≤ 65536) (hc : L.length ≤ cap) (hz : Box (∀ x ∈ L, x.size ≤ 65536)) (hF : Ss w a L) (h : Box (joinB L = x)) :
    Calls Tryz.prog 80 #[.slice a L.length cap] w fun e w' => e = .returned (.string x) ∧ Below w.heap.size w w' :=
  (mJoin_any a cap L w hl hc hz (box hF)).mono fun e w' ⟨h1, h2⟩ => ⟨by rw [h1, h.out], h2⟩
theorem mRank17_is {k : Int} {a b : Option Addr} {cap cb n : Nat} {L : List QP} {present : Bool} {V R : List ByteArray} {w : World} {qf : ByteArray → Int} (hk : InI64 k) (hl : L.length ≤ 65536) (hz : Box (∀ i (hi : i < L.length), L[i].1.size ≤ 20000)) (hvl : V.length ≤ 65536) (hvz : Box (∀ i (hi : i < V.length), V[i].size ≤ 20000)) (hF : Qs w a L) (hS : Ss w b V) (HQF : Box (∀ v : ByteArray, qualR k L present v.data.toList = qf v)) (hR : Box (rankQ qf V = R)) (hn : Box (V.length = n)) :
    Calls Tryz.prog 108 #[.int .i64 k, .slice a L.length cap, .bool present, .slice b n cb] w fun e w' => OwnPost w R e w' := by
  have := mRank0_any k a b cap cb L present V w hk hl hz hvl hvz (box hF) (box hS)
  rw [show (fun v : ByteArray => qualR k L present v.data.toList) = qf from funext HQF.out, hR.out, hn.out] at this
  exact this
set_option maxHeartbeats 4000000 in
theorem mAcc_any (n : ByteArray) (b : Option Addr) (c : Nat) (V : List ByteArray) (a : Option Addr) (cap : Nat) (L : List F) (w : World) (hva : Box (validA (n, V) = true)) (hn : n.size ≤ 20000) (hl : V.length ≤ 65536) (hz : Box (∀ i (hi : i < V.length), V[i].size ≤ 20000)) (FL : Box (FitL L)) (hV : Box (Ss w b V)) (hF : Box (Fs w a L)) (hW : Wts w) :
    Calls Tryz.prog 72 #[.agg #[.string n, .slice b V.length c], .slice a L.length cap] w fun e w' => OwnPost w (accS (n, V) L) e w' := by
  obtain ⟨A, hA⟩ : ∃ A, accS (n, V) L = A := ⟨_, rfl⟩
  rw [hA]
  obtain ⟨nv, hnv⟩ : ∃ nv, V.length = nv := ⟨_, rfl⟩
  have HNV := box hnv
  rw [hnv]
  obtain ⟨nl, hnl⟩ : ∃ nl, L.length = nl := ⟨_, rfl⟩
  have HNL := box hnl
  rw [hnl]
  have n65 : n.size ≤ 65536 := by omega
  have C0 := box (C2.new (.string n) (.slice b nv c) w 39)
  have B0 := box (below_new w (.cells #[.string n, .slice b nv c] 39))
  obtain ⟨w0, hw0⟩ : ∃ w0, w.alloc (.cells #[.string n, .slice b nv c] 39) = w0 := ⟨_, rfl⟩
  have HW0 := box hw0
  rw [hw0] at C0 B0
  have hs0 := B0.out.size
  have V0 := box (hV.out.below B0.out)
  have F0 := box (hF.out.below B0.out)
  have T0 := box (hW.below B0.out)
  obtain ⟨k, hk⟩ : ∃ k, kindN n = k := ⟨_, rfl⟩
  have HK := box hk
  have hki : InI64 k := by rw [← hk]; exact kindN_i64 n
  have c00 := C0.out.1.1
  have c01 := C0.out.1.2
  by_cases hk0 : k = 0
  · obtain ⟨M, hM⟩ : ∃ M, allB n L = M := ⟨_, rfl⟩
    have HM := box hM
    have hml : M.length ≤ 65536 := by rw [← hM]; have := allB_len n L; omega
    have HMz : Box (∀ x ∈ M, x.size ≤ 65536) := box (by rw [← hM]; exact allB_small (FL.out.vals n))
    obtain ⟨h, hh⟩ : ∃ h, joinB M = h := ⟨_, rfl⟩
    have HJ := box hh
    obtain ⟨q, hq⟩ : ∃ q, hasS V h = q := ⟨_, rfl⟩
    have HQ := box hq
    have HA : Box (A = if q = true then [h] else []) := box (by
      have h1 := acc_other (L := L) hva.out (by show kindN n = 0; rw [hk, hk0])
      rw [← hA, h1]
      show (if hasS V (joinB (allB n L)) = true then [joinB (allB n L)] else []) = _
      rw [hM, hh, hq])
    subst hk0
    clear hA hk hM hh hq hnv hnl hw0 hW
    go_enter Tryz.func72, Tryz.ntmps72
    go_wp2_with fail
    rw [HW0.out]
    refine (mKind17_is n65 HK).mono ?_; rintro e w1 ⟨rfl, hb1⟩
    have B1 := box hb1
    have C1 := box (C0.out.below B1.out C0.out.lt)
    have F1 := box (F0.out.below B1.out)
    have d00 := C1.out.1.1
    have d01 := C1.out.1.2
    clear hb1 c00 c01
    go_wp2_with fail
    refine (mAll17_is FL n65 F1.out HM HNL).mono ?_; rintro e w2 ⟨v2, rfl, hO2, hb2⟩
    obtain ⟨a2, c2, rfl, hS2, hc2⟩ := hO2.ss
    have S2 := box hS2
    have B2 := box (B1.out.trans (hb2.mono B1.out.size))
    clear hO2 hS2 hb2 d00 d01
    go_wp2_with fail
    refine (mJoin17_is hml hc2 HMz S2.out HJ).mono ?_; rintro e w3 ⟨rfl, hb3⟩
    have B3 := box (B2.out.trans (hb3.mono B2.out.size))
    have C3 := box (C0.out.below B3.out C0.out.lt)
    have V3 := box (V0.out.below B3.out)
    have e00 := C3.out.1.1
    have e01 := C3.out.1.2
    clear hb3
    go_wp2_with fail
    refine (contains17_is hl V3.out HQ HNV).mono ?_; rintro e w4 ⟨rfl, rfl⟩
    have BR := box (B0.out.trans (B3.out.mono hs0))
    cases q with
    | true =>
      have HA1 : Box (A = [h]) := box (by rw [HA.out]; rfl)
      go_wp2
      go_ret
      exact ⟨_, rfl, by rw [HA1.out]; exact Go.Joins.ownsRow_le (ss_one17 _ _) BR.out.size, BR.out.alloc BR.out.size _⟩
    | false =>
      have HA1 : Box (A = []) := box (by rw [HA.out]; rfl)
      go_wp2
      go_ret
      exact ⟨_, rfl, by rw [HA1.out]; exact OwnS.nil _ _, BR.out⟩
  · have hke : (k == 0) = false := by rw [beq_eq_false_iff_ne]; exact hk0
    have hke2 : (k != 0) = true := by simp [hk0]
    obtain ⟨X, hX⟩ : ∃ X, prefsV k L = X := ⟨_, rfl⟩
    obtain ⟨o, ho⟩ : ∃ o, prefsO k L = o := ⟨_, rfl⟩
    have HP : Box (prefsV k L = X ∧ prefsO k L = o) := box ⟨hX, ho⟩
    have hxl : X.length ≤ 65536 := by rw [← hX]; exact prefs17_len _ _
    have HXz : Box (∀ i (hi : i < X.length), X[i].1.size ≤ 20000) := box (by rw [← hX]; exact prefs17_small FL.out.2)
    have HQF : Box (∀ v : ByteArray, qualR k X o v.data.toList = qlS (n, V) L v) := box (fun v => by unfold qlS; rw [hk, hX, ho])
    have HRK : Box (rankQ (qlS (n, V) L) V = A) := box (by rw [← hA]; unfold accS; rw [if_neg (by show ¬ kindN n = 0; rw [hk]; exact hk0)])
    clear hA hk hX ho hnv hnl hw0 hW
    go_enter Tryz.func72, Tryz.ntmps72
    go_wp2_with fail
    rw [HW0.out]
    refine (mKind17_is n65 HK).mono ?_; rintro e w1 ⟨rfl, hb1⟩
    have B1 := box hb1
    have F1 := box (F0.out.below B1.out)
    have T1 := T0.out.below B1.out
    clear hb1 c00 c01
    go_wp2_with fail
    refine (mPrefs17_is hki FL F1.out T1 HP HNL).mono ?_; rintro e w2 ⟨p2, c2, rfl, hQ2, hb2⟩
    have Q2 := box hQ2
    have B2 := box (B1.out.trans (hb2.mono B1.out.size))
    have C2 := box (C0.out.below B2.out C0.out.lt)
    have V2 := box (V0.out.below B2.out)
    have d00 := C2.out.1.1
    have d01 := C2.out.1.2
    clear hQ2 hb2 T1
    go_wp2_with fail
    refine (mRank17_is hki hxl HXz hl hz Q2.out V2.out HQF HRK HNV).mono ?_; rintro e w3 ⟨v3, rfl, hO3, hb3⟩
    have B3 := box (B2.out.trans (hb3.mono B2.out.size))
    have BR := box (B0.out.trans (B3.out.mono hs0))
    have O3 := box (show OwnS w3 w.heap.size v3 A from Go.Joins.ownsRow_le hO3 (Nat.le_trans hs0 B2.out.size))
    clear hb3 hO3
    go_wp2
    go_ret
    exact ⟨_, rfl, O3.out, BR.out⟩
theorem validX_one (x : AX) : validX [x] = validA x := by
  unfold validX axesV
  show (decide (1 ≤ 1) && decide (1 ≤ 4) && ((List.range 1).all fun i => validA (atA [x] i) && newA [x] i i)) = validA x
  have h1 : newA [x] 0 0 = true := by unfold newA; simp
  rw [show List.range 1 = [0] from rfl, List.all_cons, List.all_nil, h1]
  show (true && true && (validA x && true && true)) = _
  cases validA x <;> rfl
theorem axs_one {n : ByteArray} {v : Value} {V : List ByteArray} (w : World) (h : SsV w v V) : Axs (w.alloc (.cells #[.string n, v] 39)) (some ⟨w.heap.size, 0, none⟩) [(n, V)] := by
  intro i hi
  have hc := C2.new (.string n) v w 39
  match i, hi with
  | 0, _ => exact ⟨w.heap.size, 0, v, rfl, hc.1.1, hc.1.2, h.below (below_new _ _)⟩
theorem mValidOne_is {n : ByteArray} {V : List ByteArray} {g : Nat} {q : Bool} {w : World} (hn : n.size ≤ 20000) (hl : V.length ≤ 65000) (hz : Box (∀ i (hi : i < V.length), V[i].size ≤ 20000)) (hF : Axs w (some ⟨g, 0, none⟩) [(n, V)]) (h : Box (validA (n, V) = q)) :
    Calls Tryz.prog 34 #[.slice (some ⟨g, 0, none⟩) 1 1] w fun e w' => e = .returned (.bool q) ∧ Below w.heap.size w w' := by
  have hsm : smallA [(n, V)] := by
    intro i hi
    match i, hi with
    | 0, _ => exact ⟨by show n.size ≤ _; omega, by show V.length ≤ _; omega, fun j hj => by have := hz.out j hj; show V[j].size ≤ _; omega⟩
  have := mValid_any (some ⟨g, 0, none⟩) 1 [(n, V)] w (by simp) (box hsm) (box hF)
  rw [validX_one, h.out] at this
  exact this
theorem mAcc_is {n : ByteArray} {b : Option Addr} {c nv : Nat} {V A : List ByteArray} {a : Option Addr} {cap nl : Nat} {L : List F} {w : World} (hva : Box (validA (n, V) = true)) (hn : n.size ≤ 20000) (hl : V.length ≤ 65536) (hz : Box (∀ i (hi : i < V.length), V[i].size ≤ 20000)) (FL : Box (FitL L)) (hV : Ss w b V) (hF : Fs w a L) (hW : Wts w) (h : Box (accS (n, V) L = A)) (hnv : Box (V.length = nv)) (hnl : Box (L.length = nl)) :
    Calls Tryz.prog 72 #[.agg #[.string n, .slice b nv c], .slice a nl cap] w fun e w' => OwnPost w A e w' := by
  have := mAcc_any n b c V a cap L w hva hn hl hz FL (box hV) (box hF) hW
  rw [h.out, hnv.out, hnl.out] at this; exact this
set_option maxHeartbeats 4000000 in
theorem mRanked_any (n : ByteArray) (b : Option Addr) (c : Nat) (V : List ByteArray) (a : Option Addr) (cap : Nat) (L : List F) (st : Bool) (w : World) (hn : n.size ≤ 20000) (hl : V.length ≤ 65000) (hc : V.length ≤ c) (hz : Box (∀ i (hi : i < V.length), V[i].size ≤ 20000)) (FL : Box (FitL L)) (hV : Box (Ss w b V)) (hF : Box (Fs w a L)) (hW : Wts w) :
    Calls Tryz.prog 37 #[.agg #[.string n, .slice b V.length c], .slice a L.length cap, .bool st] w fun e w' => OwnPost w (rankS (n, V) L st) e w' := by
  obtain ⟨R, hR⟩ : ∃ R, rankS (n, V) L st = R := ⟨_, rfl⟩
  rw [hR]
  have hV' := hV.out
  have hAX : Box (SsV w (.slice b V.length c) V) := box ⟨b, c, rfl, hV.out, hc⟩
  obtain ⟨nv, hnv⟩ : ∃ nv, V.length = nv := ⟨_, rfl⟩
  have HNV := box hnv
  rw [hnv] at hAX ⊢
  obtain ⟨nl, hnl⟩ : ∃ nl, L.length = nl := ⟨_, rfl⟩
  have HNL := box hnl
  rw [hnl]
  have hv6 : V.length ≤ 65536 := by omega
  have C0 := box (C2.new (.string n) (.slice b nv c) w 39)
  have B0 := box (below_new w (.cells #[.string n, .slice b nv c] 39))
  have A0 := box (hAX.out.below B0.out)
  obtain ⟨w0, hw0⟩ : ∃ w0, w.alloc (.cells #[.string n, .slice b nv c] 39) = w0 := ⟨_, rfl⟩
  have HW0 := box hw0
  rw [hw0] at C0 B0 A0
  have hs0 := B0.out.size
  have V0 := box (hV.out.below B0.out)
  have F0 := box (hF.out.below B0.out)
  have T0 := box (hW.below B0.out)
  have HS0 : Box (w0.heap.size = w.heap.size + 1) := box (by rw [← hw0]; simp)
  have AX0 : Box (Axs (w0.alloc (.cells #[.string n, .slice b nv c] 39)) (some ⟨w.heap.size + 1, 0, none⟩) [(n, V)]) := box (by rw [← HS0.out]; exact axs_one (n := n) w0 A0.out)
  have BN := box (below_new w0 (.cells #[.string n, .slice b nv c] 39))
  have c00 := C0.out.1.1
  have c01 := C0.out.1.2
  cases hva : validA (n, V) with
  | false =>
    have HVA := box hva
    have HR : Box (R = []) := box (by rw [← hR, rankS_bad hva])
    clear hva hR hnv hnl hw0 hW hV'
    go_enter Tryz.func37, Tryz.ntmps37
    go_wp2_with fail
    rw [HW0.out]
    refine (mValidOne_is hn hl hz AX0.out HVA).mono ?_; rintro e w1 ⟨rfl, hb1⟩
    have B1 := box (B0.out.trans ((BN.out.trans (hb1.mono BN.out.size)).mono hs0))
    clear hb1
    go_wp2
    go_ret
    exact ⟨_, rfl, by rw [HR.out]; exact OwnS.nil _ _, B1.out⟩
  | true =>
    have HVA := box hva
    obtain ⟨A, hA⟩ : ∃ A, accS (n, V) L = A := ⟨_, rfl⟩
    have HA := box hA
    have hv1 := (validA_len hva).1
    have HRD : Box (A = [] → st = false → R = [atS V 0]) := box (fun h1 h2 => by subst h2; rw [← hR]; exact rankS_dflt hva (hA.trans h1))
    have HRA : Box (A ≠ [] ∨ st = true → R = A) := box (fun h => by rw [← hR, ← hA]; exact rankS_acc hva (by rw [hA]; exact h))
    have hv0 : 0 < nv := by rw [← hnv]; exact hv1
    clear hva hR hA hnv hnl hw0 hW hV' hv1
    go_enter Tryz.func37, Tryz.ntmps37
    go_wp2_with fail
    rw [HW0.out]
    refine (mValidOne_is hn hl hz AX0.out HVA).mono ?_; rintro e w1 ⟨rfl, hb1⟩
    have B1 := box (BN.out.trans (hb1.mono BN.out.size))
    have C1 := box (C0.out.below B1.out C0.out.lt)
    have V1 := box (V0.out.below B1.out)
    have F1 := box (F0.out.below B1.out)
    have T1 := T0.out.below B1.out
    have d00 := C1.out.1.1
    have d01 := C1.out.1.2
    clear hb1 c00 c01
    go_wp2_with fail
    refine (mAcc_is HVA hn hv6 hz FL V1.out F1.out T1 HA HNV HNL).mono ?_; rintro e w2 ⟨v2, rfl, hO2, hb2⟩
    have BT := box (B1.out.trans (hb2.mono B1.out.size))
    have CT := box (C0.out.below BT.out C0.out.lt)
    have OT := box (show OwnS w2 w0.heap.size v2 A from Go.Joins.ownsRow_le hO2 B1.out.size)
    obtain ⟨oa, oc, rfl, _, hoc⟩ := hO2.ss
    clear hb2 hO2 d00 d01 T1
    have t00 := CT.out.1.1
    have t01 := CT.out.1.2
    have hbt := BT.out.size
    have BR := box (B0.out.trans (BT.out.mono hs0))
    clear CT
    by_cases hA0 : A.length = 0
    · have HA0 : Box (A = []) := box (List.length_eq_zero_iff.1 hA0)
      rw [hA0]
      cases st with
      | false =>
        have HRX : Box (R = [atS V 0]) := box (HRD.out HA0.out rfl)
        obtain ⟨g1, off1, rfl, c1⟩ := (V0.out.below BT.out) 0 (by have := HNV.out; omega)
        obtain ⟨x0, hx0⟩ : ∃ x0, V[0]'(by have := HNV.out; omega) = x0 := ⟨_, rfl⟩
        have HX0 : Box (atS V 0 = x0) := box (by rw [atS_is (by have := HNV.out; omega)]; exact hx0)
        rw [hx0, Nat.add_zero] at c1
        have hv0i : (0 : Int) < (nv : Int) := by omega
        clear hx0 hA0
        go_wp2
        go_ret
        exact ⟨_, rfl, by rw [HRX.out, HX0.out]; exact Go.Joins.ownsRow_le (ss_one17 _ _) (Nat.le_trans hs0 hbt), BR.out.alloc BR.out.size _⟩
      | true =>
        have HRX : Box (R = A) := box (HRA.out (.inr rfl))
        have hR0 : A.length = 0 := hA0
        go_wp2
        go_ret
        exact ⟨_, rfl, by rw [HRX.out, ← hA0]; exact Go.Joins.ownsRow_le OT.out hs0, BR.out⟩
    · have HRX : Box (R = A) := box (HRA.out (.inl (fun h => hA0 (by rw [h]; rfl))))
      have hai : ((A.length : Int) == 0) = false := by rw [beq_eq_false_iff_ne]; omega
      go_wp2
      go_ret
      exact ⟨_, rfl, by rw [HRX.out]; exact Go.Joins.ownsRow_le OT.out hs0, BR.out⟩
end
section
open Go.RowKit
theorem keyD_more : ∀ {R : List (List ByteArray)} {D : List Nat} {j : Nat} (hl : D.length = R.length) (h : j < R.length), keyD (R.take (j + 1)) (D.take (j + 1)) = keyD (R.take j) (D.take j) ++ [atS R[j] (D[j]'(by omega))]
  | r :: R, d :: D, 0, hl, h => rfl
  | r :: R, d :: D, j + 1, hl, h => by
    have ih := keyD_more (R := R) (D := D) (j := j) (by simpa using hl) (by simpa using h)
    show atS r d :: keyD (R.take (j + 1)) (D.take (j + 1)) = atS r d :: keyD (R.take j) (D.take j) ++ [_]
    rw [ih]; rfl
  | [], D, j, hl, h => absurd h (by simp)
  | r :: R, [], j, hl, h => by simp at hl
theorem keyD_len : ∀ {R : List (List ByteArray)} {D : List Nat}, (keyD R D).length ≤ R.length
  | r :: R, d :: D => by show (keyD R D).length + 1 ≤ R.length + 1; have := keyD_len (R := R) (D := D); omega
  | [], [] => Nat.le_refl _
  | [], d :: D => Nat.le_refl _
  | r :: R, [] => Nat.zero_le _
def KaRel (R : List (List ByteArray)) (D : List Nat) (W : World) (v i : Value) (wr : World) : Prop :=
  ∃ j : Nat, i = .int .i64 j ∧ j ≤ R.length ∧ OwnS wr W.heap.size v (keyD (R.take j) (D.take j)) ∧ Box (Below W.heap.size W wr)
set_option maxHeartbeats 2000000 in
theorem keyAt_any (g : Nat) (D : List Nat) (n : Nat) (ka : Option Addr) (kc : Nat) (R : List (List ByteArray)) (w : World) (hn : R.length = n) (hnd : D.length = n) (h6 : n ≤ 65536) (hI : Box (Io w g D)) (hD : Box (inD R D)) (hK : Box (Kss w ka R)) :
    Calls Tryz.prog 90 #[.slice (some ⟨g, 0, none⟩) n n, .slice ka n kc] w fun e w' => OwnPost w (keyD R D) e w' := by
  have HN := box hn
  have HND := box hnd
  clear hn hnd
  go_enter Tryz.func90, Tryz.ntmps90
  go_wp2
  go_loopw [5, 10] (fun v i wr => KaRel R D w v i wr) (fun _ i _ => n - (intOf i).toNat)
  case atStart => exact ⟨0, rfl, Nat.zero_le _, OwnS.nil _ _, box (Below.refl _ _)⟩
  case round =>
    obtain ⟨j, rfl, hj, hO, BL⟩ := hrel
    have O0 := box hO
    have hs := BL.out.size
    obtain ⟨y, hy⟩ : ∃ y, keyD (R.take j) (D.take j) = y := ⟨_, rfl⟩
    have hyl : y.length ≤ 65536 := by rw [← hy]; have := keyD_len (R := R.take j) (D := D.take j); rw [List.length_take, HN.out] at this; omega
    rw [hy] at O0
    clear hO
    by_cases hlt : j < n
    · have hji : (j : Int) < (n : Int) := by omega
      have hj0 : (0 : Int) ≤ (j : Int) := by omega
      have hjR : j < R.length := by rw [HN.out]; exact hlt
      have hjD : j < D.length := by rw [HND.out]; exact hlt
      have hdl := inD_at hD.out j hjR hjD
      obtain ⟨d, hd⟩ : ∃ d, D[j] = d := ⟨_, rfl⟩
      obtain ⟨r, hr⟩ : ∃ r, R[j] = r := ⟨_, rfl⟩
      have c0 : wr.cell? ⟨g, j, none⟩ = some (.int .i64 (d : Int)) := by
        have h1 := (hI.out j hjD).1
        rw [hd] at h1
        exact (BL.out.cell (cell_lt h1)).trans h1
      obtain ⟨gk, offk, v, rfl, c1, b, c, rfl, hss, _⟩ := (hK.out.below BL.out) j hjR
      rw [hr] at c1 hss
      rw [hd, hr] at hdl
      obtain ⟨x, hx⟩ : ∃ x, r[d] = x := ⟨_, rfl⟩
      obtain ⟨gr, offr, rfl, c2⟩ := hss d hdl
      rw [hx] at c2
      have hdi : (d : Int) < (r.length : Int) := by omega
      have hd0 : (0 : Int) ≤ (d : Int) := by omega
      have HY : Box (keyD (R.take (j + 1)) (D.take (j + 1)) = y ++ [x]) := box (by
        rw [keyD_more (by rw [HN.out, HND.out]) hjR, hy]
        congr 2
        rw [hd, hr, atS_is hdl, hx])
      clear hy hd hr hx hss
      go_wp2_with (at_builtin; refine wpList_append_str _ rfl (.tmp 15) (.tmp 23) rfl w.heap.size _ y rfl ?a1 _ _ rfl x ?b1 ?c1 ?d1 ?_)
      case a1 => exact own_below O0.out (below_new _ _)
      case b1 => exact (World.cell?_alloc_at (w := wr) #[.string x] 9 wr.heap.size 0 rfl).trans rfl
      case c1 => exact hyl
      case d1 => first | omega | (simp; omega)
      intro v6 w6 hO6 hb6
      have O6 := box hO6
      have B6 := box ((BL.out.alloc hs _).trans hb6)
      clear hO6 hb6
      go_wp2
      go_roundw
      case rel => exact ⟨j + 1, by go_num, by omega, by rw [HY.out]; exact O6.out, B6⟩
      case measure => simp [intOf]; omega
    · have hji : ¬ (j : Int) < (n : Int) := by omega
      have HE : Box (y = keyD R D) := box (by rw [← hy, List.take_of_length_le (by rw [HN.out]; omega), List.take_of_length_le (by rw [HND.out]; omega)])
      clear hy
      go_wp2
      go_ret
      exact ⟨_, rfl, by rw [← HE.out]; exact O0.out, BL.out⟩
def AdvPost (R : List (List ByteArray)) (D : List Nat) (g : Nat) (w : World) (e : Ending) (w' : World) : Prop :=
  Only g w w' ∧ (((incD R D).1 = true ∧ e = .returned (.bool true) ∧ Io w' g (incD R D).2) ∨ ((incD R D).1 = false ∧ e = .returned (.bool false)))
def AdRel (R : List (List ByteArray)) (D : List Nat) (g : Nat) (W : World) (i : Value) (wr : World) : Prop :=
  ∃ k : Nat, k ≤ R.length ∧ i = .int .i64 ((k : Int) - 1) ∧ Io wr g (D.take k ++ List.replicate (R.length - k) 0) ∧ (incD (R.drop k) (D.drop k)).1 = false ∧ Box (Only g W wr)
theorem Io.len {w : World} {g : Nat} {D E : List Nat} (h : Io w g D) (e : D = E) : Io w g E := e ▸ h
theorem set_mid {D : List Nat} {p m : Nat} (x y : Nat) (h : p < D.length) : (D.take (p + 1) ++ List.replicate m y).set p x = D.take p ++ x :: List.replicate m y := by
  rw [List.take_succ_eq_append_getElem h, List.append_assoc, List.set_append_right _ _ (by rw [List.length_take]; omega)]
  rw [List.length_take, Nat.min_eq_left (by omega), Nat.sub_self]
  rfl
set_option maxHeartbeats 2000000 in
theorem advance_any (g : Nat) (D : List Nat) (n : Nat) (ka : Option Addr) (kc : Nat) (R : List (List ByteArray)) (w : World) (hn : R.length = n) (hnd : D.length = n) (h6 : n ≤ 65536) (hR6 : Box (∀ r ∈ R, r.length ≤ 65536)) (hI : Box (Io w g D)) (hD : Box (inD R D)) (hK : Box (∀ w', Only g w w' → Kss w' ka R)) :
    Calls Tryz.prog 89 #[.slice (some ⟨g, 0, none⟩) n n, .slice ka n kc] w fun e w' => AdvPost R D g w e w' := by
  have HN := box hn
  have HND := box hnd
  have hst : AdRel R D g w (.int .i64 ((n : Int) - 1)) w := ⟨n, by omega, rfl, hI.out.len (by rw [List.take_of_length_le (by omega), hn, Nat.sub_self]; simp), by rw [List.drop_of_length_le (by omega), List.drop_of_length_le (by omega)]; rfl, box (Only.refl _ _)⟩
  have HST := box hst
  clear hn hnd hst
  go_enter Tryz.func89, Tryz.ntmps89
  go_wp2
  go_loopw [5] (fun i wr => AdRel R D g w i wr) (fun i _ => (intOf i + 1).toNat)
  case atStart => exact HST.out
  case round =>
    obtain ⟨k, hk, rfl, hIo, hinc, OL⟩ := hrel
    have HI := box hIo
    have HIN := box hinc
    clear hIo hinc
    by_cases hk0 : k = 0
    · subst hk0
      have HF : Box ((incD R D).1 = false) := box HIN.out
      go_wp2
      go_ret
      exact ⟨OL.out, .inr ⟨HF.out, rfl⟩⟩
    · obtain ⟨p, rfl⟩ : ∃ p, k = p + 1 := ⟨k - 1, by omega⟩
      rw [show (((p + 1 : Nat) : Int) - 1) = (p : Int) from by omega]
      have hp0 : (0 : Int) ≤ (p : Int) := by omega
      have hpR : p < R.length := by omega
      have hpn : p < n := by have := HN.out; omega
      have hpi : (p : Int) < (n : Int) := by omega
      have hpD : p < D.length := by rw [HND.out]; exact hpn
      have hE := incD_at (R := R) (D := D) (p := p) (by rw [HN.out, HND.out]) hpR HIN.out
      obtain ⟨d, hd⟩ : ∃ d, D[p] = d := ⟨_, rfl⟩
      obtain ⟨r, hr⟩ : ∃ r, R[p] = r := ⟨_, rfl⟩
      have hr6 : r.length ≤ 65536 := by rw [← hr]; exact hR6.out _ (List.getElem_mem hpR)
      have hdl := inD_at hD.out p hpR hpD
      rw [hd, hr] at hE hdl
      have HE := box hE
      have hpl : p < (D.take (p + 1) ++ List.replicate (R.length - (p + 1)) 0).length := by rw [List.length_append, List.length_take]; omega
      obtain ⟨c0, f0⟩ := HI.out p hpl
      have hat : (D.take (p + 1) ++ List.replicate (R.length - (p + 1)) 0)[p] = d := by
        rw [List.getElem_append_left (by rw [List.length_take]; omega), List.getElem_take]; exact hd
      rw [hat] at c0
      have c0' : wr.cell? ⟨g, p, none⟩ = some (.int .i64 (d : Int)) := c0
      obtain ⟨w1, hw1⟩ : ∃ w1, wr.setCell ⟨g, p, none⟩ (intV (d + 1)) = w1 := ⟨_, rfl⟩
      have HW1 : Box (wr.setCell ⟨g, p, none⟩ (.int .i64 ((d : Int) + 1)) = w1) := box (by rw [← hw1]; rfl)
      have O1 : Box (Only g w w1) := box (by rw [← hw1]; exact OL.out.setAt p _)
      have I1 : Box (Io w1 g (D.take p ++ (d + 1) :: List.replicate (R.length - (p + 1)) 0)) := box (by rw [← hw1]; exact (HI.out.set hpl (d + 1)).len (set_mid _ _ hpD))
      have hpl1 : p < (D.take p ++ (d + 1) :: List.replicate (R.length - (p + 1)) 0).length := by rw [List.length_append, List.length_take, List.length_cons]; omega
      obtain ⟨d0, e0⟩ := I1.out p hpl1
      have hat1 : (D.take p ++ (d + 1) :: List.replicate (R.length - (p + 1)) 0)[p] = d + 1 := by
        rw [List.getElem_append_right (by rw [List.length_take]; omega)]
        simp [List.length_take, Nat.min_eq_left (Nat.le_of_lt hpD)]
      rw [hat1] at d0
      have d0' : w1.cell? ⟨g, p, none⟩ = some (.int .i64 ((d : Int) + 1)) := d0
      obtain ⟨gk, offk, v, rfl, c1, b, c, rfl, hss, _⟩ := (hK.out w1 O1.out) p hpR
      rw [hr] at c1
      clear hss hat hat1 hd hr d0 c0 hw1 hE
      by_cases hlt : d + 1 < r.length
      · have hlti : (d : Int) + 1 < (r.length : Int) := by omega
        have HUP : Box (incD R D = (true, D.take p ++ (d + 1) :: List.replicate (R.length - (p + 1)) 0)) := box (incD_up p (by rw [HN.out, HND.out]) (by omega) (by rw [HE.out, if_pos hlt]))
        go_wp2
        rw [HW1.out]
        go_quiet (fail)
        go_wp2
        go_ret
        exact ⟨O1.out.trans (Only.of (below_drewN _ _)), .inl ⟨by rw [HUP.out], rfl, by rw [HUP.out]; exact I1.out⟩⟩
      · have hlti : ¬ (d : Int) + 1 < (r.length : Int) := by omega
        have HUP : Box ((incD (R.drop p) (D.drop p)).1 = false) := box (by rw [HE.out, if_neg hlt])
        have hdr : d + 1 = r.length := by omega
        have I2 : Box (∀ nq, Io ((w1.drewN nq).setCell ⟨g, p, none⟩ (intV 0)) g (D.take p ++ List.replicate (R.length - p) 0)) := box (fun nq => (Io.set (w := w1.drewN nq) I1.out hpl1 0).len (by
          rw [List.set_append_right _ _ (by rw [List.length_take]; omega), List.length_take, Nat.min_eq_left (by omega), Nat.sub_self]
          rw [show R.length - p = (R.length - (p + 1)) + 1 from by omega, List.replicate_succ]
          rfl))
        have O2 : Box (∀ nq, Only g w ((w1.drewN nq).setCell ⟨g, p, none⟩ (intV 0))) := box (fun nq => (O1.out.trans (Only.of (below_drewN _ _))).setAt p _)
        go_wp2
        rw [HW1.out]
        go_quiet (fail)
        go_wp2
        go_roundw
        case rel => exact ⟨p, by omega, by go_num, I2.out _, HUP.out, box (O2.out _)⟩
        case measure => simp [intOf]
end
section
open Go.RowKit
theorem OwnK.only {w w' : World} {k B : Nat} {v : Value} {L : List KY} (h : OwnK w B v L) (hb : Only k w w') (hk : k < B) : OwnK w' B v L := by
  obtain ⟨cs, h1, h2⟩ := h
  exact ⟨cs, own_only h1 hb hk, h2.1, h2.2.1, fun i hi => by obtain ⟨u, q1, q2⟩ := h2.2.2 i hi; exact ⟨u, q1, own_only q2 hb hk⟩⟩
theorem take_keys {R : List (List ByteArray)} {D : List Nat} {t : Nat} (hD : inD R D) (ht : valD R D = t) : (prodK R).take (t + 1) = (prodK R).take t ++ [keyD R D] := by
  have h1 := prodK_at hD
  rw [ht] at h1
  have h2 : t < (prodK R).length := by rw [prodK_len, ← ht]; exact valD_lt hD
  rw [List.getElem?_eq_getElem h2] at h1
  rw [List.take_succ_eq_append_getElem h2, Option.some.inj h1]
def FkRel3 (R : List (List ByteArray)) (W : World) (v m : Value) (wr : World) : Prop :=
  ∃ t : Nat, t ≤ 64 ∧ t ≤ numK R ∧ OwnK wr (W.heap.size + 1) v ((prodK R).take t) ∧ Box (Below W.heap.size W wr ∧ W.heap.size + 1 ≤ wr.heap.size) ∧ ((m = .bool true ∧ ∃ D, Box (Io wr W.heap.size D ∧ inD R D ∧ valD R D = t)) ∨ (m = .bool false ∧ Box (t = numK R)))
theorem keyAt17_is {g : Nat} {D : List Nat} {n : Nat} {ka : Option Addr} {kc : Nat} {R : List (List ByteArray)} {Y : KY} {w : World} (hn : Box (R.length = n)) (h6 : n ≤ 65536) (hI : Io w g D) (hD : inD R D) (hK : Kss w ka R) (hY : Box (keyD R D = Y)) :
    Calls Tryz.prog 90 #[.slice (some ⟨g, 0, none⟩) n n, .slice ka n kc] w fun e w' => OwnPost w Y e w' := by
  have := keyAt_any g D n ka kc R w hn.out ((inD_len hD).trans hn.out) h6 (box hI) (box hD) (box hK)
  rw [hY.out] at this; exact this
theorem advance17_is {g : Nat} {D : List Nat} {n : Nat} {ka : Option Addr} {kc : Nat} {R : List (List ByteArray)} {w : World} (hn : Box (R.length = n)) (h6 : n ≤ 65536) (hR6 : Box (∀ r ∈ R, r.length ≤ 16)) (hI : Io w g D) (hD : inD R D) (hK : Box (∀ w', Only g w w' → Kss w' ka R)) :
    Calls Tryz.prog 89 #[.slice (some ⟨g, 0, none⟩) n n, .slice ka n kc] w fun e w' => AdvPost R D g w e w' :=
  advance_any g D n ka kc R w hn.out ((inD_len hD).trans hn.out) h6 (box (fun r hr => by have := hR6.out r hr; omega)) (box hI) (box hD) hK
set_option maxHeartbeats 4000000 in
theorem firstKeys_any (n : Nat) (ka : Option Addr) (kc : Nat) (R : List (List ByteArray)) (w : World) (hn : Box (R.length = n)) (h4 : n ≤ 4) (hR : Box (∀ r ∈ R, r ≠ [] ∧ r.length ≤ 16)) (hK : Box (Kss w ka R)) :
    Calls Tryz.prog 54 #[.slice ka n kc] w fun e w' => OwnKPost w ((prodK R).take 64) e w' := by
  have h6 : n ≤ 65536 := by omega
  have hn0 : (0 : Int) ≤ (n : Int) := by omega
  have HR6 : Box (∀ r ∈ R, r.length ≤ 16) := box (fun r hr => (hR.out r hr).2)
  have BN : Box (Below w.heap.size w (w.alloc (.cells (madeCells #[.int .i64 0] n) 3))) := box (below_new w _)
  have I0 : Box (Io (w.alloc (.cells (madeCells #[.int .i64 0] n) 3)) w.heap.size (List.replicate n 0)) := box (Io.new w n _)
  have D0 : Box (inD R (List.replicate n 0) ∧ valD R (List.replicate n 0) = 0) := box (by rw [← hn.out]; exact inD_zero R (fun r hr => (hR.out r hr).1))
  obtain ⟨i0, hi0, hz0, hz1, hz2⟩ := info_parts info_int
  have hmk := fun (w : World) => run_make (P := Tryz.prog) w 103 3 i0 _ Tryz.underlying103 hi0 hz0 .i64 .i64 n n (by omega) (by omega) (by rw [hz2]; omega) (by omega)
  simp only [Int.toNat_natCast, hz1, Nat.mul_one] at hmk
  go_enter Tryz.func54, Tryz.ntmps54
  go_wp2
  go_loopw [3, 5] (fun v m wr => FkRel3 R w v m wr) (fun v _ _ => 64 - slLen v)
  case atStart => exact ⟨0, Nat.zero_le _, Nat.zero_le _, OwnK.nil _ _, box ⟨BN.out, by simp⟩, .inl ⟨rfl, _, box ⟨I0.out, D0.out.1, D0.out.2⟩⟩⟩
  case round =>
    obtain ⟨t, ht, htn, hO, BW, hm⟩ := hrel
    have O0 := box hO
    have hs1 : w.heap.size + 1 ≤ wr.heap.size := BW.out.2
    obtain ⟨av, cv, rfl, _, hcv⟩ := hO.kss
    have hlen : ((prodK R).take t).length = t := by rw [List.length_take, prodK_len]; omega
    have HLEN := box hlen
    rw [hlen] at O0 hcv ⊢
    clear hO hlen hmk
    rcases hm with ⟨rfl, D, HD⟩ | ⟨rfl, HE⟩
    · by_cases h64 : t < 64
      · have h64i : (t : Int) < 64 := by omega
        obtain ⟨Y, hY⟩ : ∃ Y, keyD R D = Y := ⟨_, rfl⟩
        have HY := box hY
        have HTK : Box ((prodK R).take (t + 1) = (prodK R).take t ++ [Y]) := box (by rw [← hY]; exact take_keys HD.out.2.1 HD.out.2.2)
        have K0 := box (hK.out.below BW.out.1)
        have hv := valD_lt HD.out.2.1
        rw [HD.out.2.2] at hv
        clear hY
        go_wp2_with fail
        refine (keyAt17_is hn h6 HD.out.1 HD.out.2.1 K0.out HY).mono ?_; rintro e w2 ⟨v2, rfl, hO2, hb2⟩
        obtain ⟨a2, c2, rfl, _, _⟩ := hO2.ss
        have Y2 := box (show OwnS w2 (w.heap.size + 1) _ Y from Go.Joins.ownsRow_le hO2 hs1)
        have O2 := box (O0.out.next hb2)
        have I2 := box (HD.out.1.below hb2 (Nat.lt_of_lt_of_le (Nat.lt_succ_self _) hs1))
        have B2 := box (BW.out.1.trans (hb2.mono (Nat.le_of_succ_le hs1)))
        have hs2 : w.heap.size + 1 ≤ w2.heap.size := Nat.le_trans hs1 hb2.size
        have hl6 : ((prodK R).take t).length ≤ 65536 := by rw [HLEN.out]; omega
        clear hO2 hb2
        go_wp2_with (at_builtin; refine wpList_append_key _ rfl (.tmp 18) (.tmp 22) rfl (w.heap.size + 1) _ ((prodK R).take t) rfl ?a1 _ _ rfl (.slice a2 Y.length c2) Y ?b1 ?u1 ?c1 ?d1 ?_)
        case a1 => exact O2.out.next (below_new _ _)
        case b1 => exact (World.cell?_alloc_at (w := w2) #[.slice a2 Y.length c2] 29 w2.heap.size 0 rfl).trans rfl
        case u1 => exact own_below Y2.out (below_new _ _)
        case c1 => exact hl6
        case d1 => first | omega | (simp; omega)
        intro v6 w6 hO6 hb6 _ _
        rw [← HTK.out] at hO6
        have O6 := box hO6
        have N2 := box (below_new w2 (.cells #[.slice a2 Y.length c2] 29))
        have hs3 : w.heap.size + 1 ≤ (w2.alloc (.cells #[.slice a2 Y.length c2] 29)).heap.size := Nat.le_trans hs2 N2.out.size
        have I6 := box ((I2.out.below N2.out (Nat.lt_of_lt_of_le (Nat.lt_succ_self _) hs2)).below hb6 (Nat.lt_succ_self _))
        have B6 := box ((B2.out.trans (N2.out.mono (Nat.le_of_succ_le hs2))).trans (hb6.mono (Nat.le_succ _)))
        have hs6 : w.heap.size + 1 ≤ w6.heap.size := Nat.le_trans hs3 hb6.size
        have K6 : Box (∀ w', Only w.heap.size w6 w' → Kss w' ka R) := box (fun w' h => hK.out.below (B6.out.trans (h.below (Nat.le_refl _) (Nat.le_of_succ_le hs6))))
        have hlen6 : Box (((prodK R).take (t + 1)).length = t + 1) := box (by rw [List.length_take, prodK_len]; omega)
        obtain ⟨a6, c6, rfl, _, _⟩ := hO6.kss
        rw [hlen6.out] at O6 ⊢
        clear hO6 hb6
        go_wp2_with fail
        refine (advance17_is hn h6 HR6 I6.out HD.out.2.1 K6).mono ?_; rintro e w7 ⟨hon, hp⟩
        have O7 := box (O6.out.only hon (Nat.lt_succ_self _))
        have B7 := box (B6.out.trans (hon.below (Nat.le_refl _) (Nat.le_of_succ_le hs6)))
        have hs7 : w.heap.size + 1 ≤ w7.heap.size := Nat.le_trans hs6 hon.size
        rcases hp with ⟨hp1, rfl, hp2⟩ | ⟨hp1, rfl⟩
        · have HI7 : Box (Io w7 w.heap.size (incD R D).2 ∧ inD R (incD R D).2 ∧ valD R (incD R D).2 = t + 1) := box ⟨hp2, (incD_some HD.out.2.1 hp1).1, by rw [(incD_some HD.out.2.1 hp1).2, HD.out.2.2]⟩
          clear hon hp1 hp2
          go_wp2
          go_roundw
          case rel => exact ⟨t + 1, by omega, by omega, O7.out, box ⟨B7.out, hs7⟩, .inl ⟨rfl, _, HI7⟩⟩
          case measure => simp [slLen]; omega
        · have HI7 : Box (t + 1 = numK R) := box (by have h1 := incD_none HD.out.2.1 hp1; rw [HD.out.2.2] at h1; exact h1)
          clear hon hp1
          go_wp2
          go_roundw
          case rel => exact ⟨t + 1, by omega, by omega, O7.out, box ⟨B7.out, hs7⟩, .inr ⟨rfl, HI7⟩⟩
          case measure => simp [slLen]; omega
      · have h64i : ¬ (t : Int) < 64 := by omega
        obtain rfl : t = 64 := by omega
        have O1 := box (O0.out.le (Nat.le_succ _))
        go_wp2
        go_ret
        exact ⟨_, rfl, O1.out, BW.out.1⟩
    · have HF : Box ((prodK R).take t = (prodK R).take 64) := box (by
        have h1 : (prodK R).length = t := by rw [prodK_len, HE.out]
        rw [List.take_of_length_le (by omega), List.take_of_length_le (by omega)])
      have O1 := box (O0.out.le (Nat.le_succ _))
      rw [HF.out] at O1
      go_wp2
      go_ret
      exact ⟨_, rfl, O1.out, BW.out.1⟩
end
section
open Go.RowKit
theorem mValid17_is {a : Option Addr} {cap n : Nat} {X : List AX} {q : Bool} {w : World} (hl : X.length ≤ 65536) (hz : Box (FitX X)) (hF : Axs w a X) (h : Box (validX X = q)) (hn : Box (X.length = n)) :
    Calls Tryz.prog 34 #[.slice a n cap] w fun e w' => e = .returned (.bool q) ∧ Below w.heap.size w w' := by
  have := mValid_any a cap X w hl (box hz.out.small) (box hF)
  rw [h.out, hn.out] at this; exact this
theorem mRanked17_is {n : ByteArray} {b : Option Addr} {c m : Nat} {V R : List ByteArray} {a : Option Addr} {cap nl : Nat} {L : List F} {st : Bool} {w : World} (hn : n.size ≤ 20000) (hl : V.length ≤ 65000) (hc : V.length ≤ c) (hz : Box (∀ i (hi : i < V.length), V[i].size ≤ 20000)) (FL : Box (FitL L)) (hV : Ss w b V) (hF : Fs w a L) (hW : Wts w) (h : Box (rankS (n, V) L st = R)) (hm : Box (V.length = m)) (hnl : Box (L.length = nl)) :
    Calls Tryz.prog 37 #[.agg #[.string n, .slice b m c], .slice a nl cap, .bool st] w fun e w' => OwnPost w R e w' := by
  have := mRanked_any n b c V a cap L st w hn hl hc hz FL (box hV) (box hF) hW
  rw [h.out, hm.out, hnl.out] at this; exact this
theorem firstKeys17_is {n : Nat} {ka : Option Addr} {kc : Nat} {R : List (List ByteArray)} {K : List KY} {w : World} (hn : Box (R.length = n)) (h4 : n ≤ 4) (hR : Box (∀ r ∈ R, r ≠ [] ∧ r.length ≤ 16)) (hK : Kss w ka R) (h : Box ((prodK R).take 64 = K)) :
    Calls Tryz.prog 54 #[.slice ka n kc] w fun e w' => OwnKPost w K e w' := by
  have := firstKeys_any n ka kc R w hn h4 hR (box hK)
  rw [h.out] at this; exact this
def KyRel (R : List (List ByteArray)) (W : World) (v i : Value) (wr : World) : Prop :=
  ∃ j : Nat, i = .int .i64 j ∧ j ≤ R.length ∧ OwnK wr W.heap.size v (R.take j) ∧ (∀ r ∈ R.take j, r ≠ []) ∧ Box (Below W.heap.size W wr)
set_option maxHeartbeats 4000000 in
theorem mKeys_any (p : Option Addr) (cp : Nat) (X : List AX) (a : Option Addr) (cap : Nat) (L : List F) (st : Bool) (w : World) (hx : X.length ≤ 65536) (ZX : Box (FitX X)) (FL : Box (FitL L)) (hl6 : L.length ≤ 65536) (hX : Box (Axs w p X)) (hF : Box (Fs w a L)) (hW : Wts w) :
    Calls Tryz.prog 22 #[.slice p X.length cp, .slice a L.length cap, .bool st] w fun e w' => OwnKPost w (keysS X L st) e w' := by
  obtain ⟨KS, hKS⟩ : ∃ KS, keysS X L st = KS := ⟨_, rfl⟩
  rw [hKS]
  obtain ⟨nx, hnx⟩ : ∃ nx, X.length = nx := ⟨_, rfl⟩
  have HNX0 := box hnx
  rw [hnx]
  obtain ⟨nl, hnl⟩ : ∃ nl, L.length = nl := ⟨_, rfl⟩
  have HNL := box hnl
  rw [hnl]
  have HT := box hW
  cases hv : validX X with
  | false =>
    have HV := box hv
    have HR : Box (KS = []) := box (by rw [← hKS]; unfold keysS; rw [if_pos hv])
    clear hv hKS hnx hnl hl6 hW
    go_enter Tryz.func22, Tryz.ntmps22
    go_wp2_with fail
    refine (mValid17_is hx ZX hX.out HV HNX0).mono ?_; rintro e w1 ⟨rfl, hb1⟩
    have B1 := box hb1
    clear hb1
    go_wp2
    go_ret
    exact ⟨_, rfl, by rw [HR.out]; exact OwnK.nil _ _, B1.out⟩
  | true =>
    have HV := box hv
    have hx4 : X.length ≤ 4 := (validX_len hv).2
    obtain ⟨R, hR⟩ : ∃ R, rowsS X L st = R := ⟨_, rfl⟩
    have HKS : Box ((prodK R).take 64 = KS) := box (by rw [← hKS, ← hR]; unfold keysS; rw [if_neg (by rw [hv]; simp)])
    have HRL : Box (R.length = nx) := box (by rw [← hR, ← hnx]; unfold rowsS; rw [List.length_map])
    have HR16 : Box (∀ r ∈ R, r.length ≤ 16) := box (by
      rw [← hR]; intro r hr; unfold rowsS at hr
      obtain ⟨x, _, rfl⟩ := List.mem_map.1 hr
      exact rankS_len _ _ _)
    have HRA : Box (∀ i (h : i < X.length) (h2 : i < R.length), R[i] = rankS X[i] L st) := box (by
      subst hR; intro i h h2; exact List.getElem_map _)
    have hnx4 : nx ≤ 4 := by omega
    clear hv hKS hR hnx hnl hl6 hW
    go_enter Tryz.func22, Tryz.ntmps22
    go_wp2_with fail
    refine (mValid17_is hx ZX hX.out HV HNX0).mono ?_; rintro e w1 ⟨rfl, hb1⟩
    have B1 := box hb1
    have hs1 := hb1.size
    clear hb1
    go_wp2
    go_loopw [7, 16] (fun v i wr => KyRel R w v i wr) (fun _ i _ => nx - (intOf i).toNat)
    case atStart => exact ⟨0, rfl, Nat.zero_le _, OwnK.nil _ _, by simp, B1⟩
    case round =>
      obtain ⟨w3, rfl⟩ : ∃ w3, w3 = wr := ⟨_, rfl⟩
      obtain ⟨i, rfl, hi, hO, hne, B3⟩ := hrel
      have HNE := box hne
      have O3 := box hO
      obtain ⟨ka, kc, rfl, hKs, hkc⟩ := hO.kss
      have hlen : (R.take i).length = i := by rw [List.length_take]; omega
      have HLEN := box hlen
      have K3 := box hKs
      rw [hlen] at O3 hkc ⊢
      have hs3 := B3.out.size
      clear hO hKs hlen hne
      by_cases hlt : i < nx
      · have hii : (i : Int) < (nx : Int) := by omega
        have hi0 : (0 : Int) ≤ (i : Int) := by omega
        have hiX : i < X.length := by have := HNX0.out; omega
        have hiR : i < R.length := by rw [HRL.out]; exact hlt
        obtain ⟨g, off, v, rfl, c0, c1, b, c, rfl, hss, hcc⟩ := (hX.out.below B3.out) i hiX
        obtain ⟨z1, z2, z3⟩ := ZX.out i hiX
        obtain ⟨n, hn⟩ : ∃ n, X[i].1 = n := ⟨_, rfl⟩
        obtain ⟨V, hV⟩ : ∃ V, X[i].2 = V := ⟨_, rfl⟩
        have hxi : X[i] = (n, V) := by rw [← hn, ← hV]
        rw [hn] at c0 z1
        rw [hV] at c1 hss z2 hcc
        have Z3 : Box (∀ j (hj : j < V.length), V[j].size ≤ 20000) := box (by subst hV; exact z3)
        obtain ⟨m, hm⟩ : ∃ m, V.length = m := ⟨_, rfl⟩
        have HM := box hm
        rw [hm] at c1
        obtain ⟨r, hr⟩ : ∃ r, rankS (n, V) L st = r := ⟨_, rfl⟩
        have HR := box hr
        have HRI : Box (R[i] = r) := box (by rw [HRA.out i hiX hiR, hxi]; exact hr)
        have HTK : Box (R.take (i + 1) = R.take i ++ [r]) := box (by rw [List.take_succ_eq_append_getElem hiR, HRI.out])
        have BN := box (below_new w3 (.cells #[.string n, .slice b m c] 39))
        have SS := box (hss.below BN.out)
        have F3 := box ((hF.out.below B3.out).below BN.out)
        have T3 := (HT.out.below B3.out).below BN.out
        have B4 := box (B3.out.trans (BN.out.mono hs3))
        have O4 := box (O3.out.next BN.out)
        clear hn hV hss z3 hxi hm hr
        go_wp2_with fail
        refine (mRanked17_is z1 z2 hcc Z3 FL SS.out F3.out T3 HR HM HNL).mono ?_; rintro e w2 ⟨vr, rfl, hO2, hb2⟩
        obtain ⟨ra, rc, rfl, _, hrc⟩ := hO2.ss
        have B2 := box (B4.out.trans (hb2.mono B4.out.size))
        have hs2 := B2.out.size
        have O2 := box (O4.out.next hb2)
        have Y2 := box (show OwnS w2 w.heap.size _ r from Go.Joins.ownsRow_le hO2 B4.out.size)
        clear hO2 hb2 c0 c1 O3 O4 T3
        by_cases hr0 : r.length = 0
        · have HE : Box (KS = []) := box (by
            rw [← HKS.out, prodK_empty R (by rw [← List.length_eq_zero_iff.1 hr0, ← HRI.out]; exact List.getElem_mem hiR)]; rfl)
          rw [hr0]
          clear hr0
          go_wp2
          go_ret
          exact ⟨_, rfl, by rw [HE.out]; exact OwnK.nil _ _, B2.out⟩
        · have hri : ((r.length : Int) == 0) = false := by rw [beq_eq_false_iff_ne]; omega
          have HNE2 : Box (∀ s ∈ R.take (i + 1), s ≠ []) := box (by
            rw [HTK.out]; intro s hs
            rcases List.mem_append.1 hs with h | h
            · exact HNE.out s h
            · rw [List.mem_singleton.1 h]; intro e; rw [e] at hr0; exact hr0 rfl)
          have hl6 : (R.take i).length ≤ 65536 := by rw [HLEN.out]; omega
          go_wp2_with (at_builtin; refine wpList_append_key _ rfl (.tmp 27) (.tmp 29) rfl w.heap.size _ (R.take i) rfl ?a1 _ _ rfl (.slice ra r.length rc) r ?b1 ?u1 ?c1 ?d1 ?_)
          case a1 => exact O2.out.next (below_new _ _)
          case b1 => exact (World.cell?_alloc_at (w := w2) #[.slice ra r.length rc] 29 w2.heap.size 0 rfl).trans rfl
          case u1 => exact own_below Y2.out (below_new _ _)
          case c1 => exact hl6
          case d1 => first | omega | (simp; omega)
          intro v6 w6 hO6 hb6 _ _
          rw [← HTK.out] at hO6
          have O6 := box hO6
          have B6 := box ((B2.out.alloc hs2 _).trans hb6)
          clear hO6 hb6
          go_wp2
          go_roundw
          case rel => exact ⟨i + 1, by go_num, by omega, O6.out, HNE2.out, B6⟩
          case measure => simp [intOf]; omega
      · have hii : ¬ (i : Int) < (nx : Int) := by omega
        have hin : i = nx := by have := HRL.out; omega
        subst hin
        have HTR : Box (R.take i = R) := box (List.take_of_length_le (by rw [HRL.out]; exact Nat.le_refl _))
        rw [HTR.out] at K3 HNE
        have HRR : Box (∀ r ∈ R, r ≠ [] ∧ r.length ≤ 16) := box (fun r hr => ⟨HNE.out r hr, HR16.out r hr⟩)
        go_wp2_with fail
        refine (firstKeys17_is HRL hnx4 HRR K3.out HKS).mono ?_; rintro e w4 ⟨v4, rfl, hO4, hb4⟩
        have B4 := box (B3.out.trans (hb4.mono hs3))
        have O4 := box (hO4.le hs3)
        clear hO4 hb4
        go_wp2
        go_ret
        exact ⟨_, rfl, O4.out, B4.out⟩
theorem mKeys17_is {p : Option Addr} {cp nx : Nat} {X : List AX} {a : Option Addr} {cap nl : Nat} {L : List F} {st : Bool} {K : List KY} {w : World} (hx : X.length ≤ 65536) (ZX : Box (FitX X)) (FL : Box (FitL L)) (hl6 : L.length ≤ 65536) (hX : Axs w p X) (hF : Fs w a L) (hW : Wts w) (h : Box (keysS X L st = K)) (hnx : Box (X.length = nx)) (hnl : Box (L.length = nl)) :
    Calls Tryz.prog 22 #[.slice p nx cp, .slice a nl cap, .bool st] w fun e w' => OwnKPost w K e w' := by
  have := mKeys_any p cp X a cap L st w hx ZX FL hl6 (box hX) (box hF) hW
  rw [h.out, hnx.out, hnl.out] at this; exact this
end
section
open Go.RowKit
theorem byte_eqs {c d : UInt8} : ((c.toNat : Int) == (d.toNat : Int)) = !(c != d) := by
  have := byte_neq (c := c) (d := d)
  rw [← this]
  show _ = !(!((c.toNat : Int) == (d.toNat : Int)))
  rw [Bool.not_not]
theorem mayStand_any (c : UInt8) (w : World) :
    Calls Tryz.prog 131 #[.int .u8 (c.toNat : Int)] w fun e w' => e = .returned (.bool (plainC c)) ∧ w = w' := by
  have e32 : (c != 32) = !((c.toNat : Int) == 32) := by rw [show ((32 : Int)) = ((32 : UInt8).toNat : Int) from rfl, byte_eqs, Bool.not_not]
  have e9 : (c != 9) = !((c.toNat : Int) == 9) := by rw [show ((9 : Int)) = ((9 : UInt8).toNat : Int) from rfl, byte_eqs, Bool.not_not]
  have e40 : (c != 40) = !((c.toNat : Int) == 40) := by rw [show ((40 : Int)) = ((40 : UInt8).toNat : Int) from rfl, byte_eqs, Bool.not_not]
  have e41 : (c != 41) = !((c.toNat : Int) == 41) := by rw [show ((41 : Int)) = ((41 : UInt8).toNat : Int) from rfl, byte_eqs, Bool.not_not]
  have e44 : (c != 44) = !((c.toNat : Int) == 44) := by rw [show ((44 : Int)) = ((44 : UInt8).toNat : Int) from rfl, byte_eqs, Bool.not_not]
  have e34 : (c != 34) = !((c.toNat : Int) == 34) := by rw [show ((34 : Int)) = ((34 : UInt8).toNat : Int) from rfl, byte_eqs, Bool.not_not]
  obtain ⟨q, hq⟩ : ∃ q, plainC c = q := ⟨_, rfl⟩
  have HQ := box hq
  unfold plainC at hq
  rw [e32, e9, e40, e41, e44, e34] at hq
  rw [HQ.out]
  clear e32 e9 e40 e41 e44 e34
  rcases t32 : ((c.toNat : Int) == 32) with _ | _
  rotate_left
  · obtain rfl : q = false := by rw [← hq, t32]; simp
    clear hq
    go_enter Tryz.func131, Tryz.ntmps131
    go_wp2
    go_ret
    exact ⟨rfl, rfl⟩
  rcases t9 : ((c.toNat : Int) == 9) with _ | _
  rotate_left
  · obtain rfl : q = false := by rw [← hq, t32, t9]; simp
    clear hq
    go_enter Tryz.func131, Tryz.ntmps131
    go_wp2
    go_ret
    exact ⟨rfl, rfl⟩
  rcases t40 : ((c.toNat : Int) == 40) with _ | _
  rotate_left
  · obtain rfl : q = false := by rw [← hq, t32, t9, t40]; simp
    clear hq
    go_enter Tryz.func131, Tryz.ntmps131
    go_wp2
    go_ret
    exact ⟨rfl, rfl⟩
  rcases t41 : ((c.toNat : Int) == 41) with _ | _
  rotate_left
  · obtain rfl : q = false := by rw [← hq, t32, t9, t40, t41]; simp
    clear hq
    go_enter Tryz.func131, Tryz.ntmps131
    go_wp2
    go_ret
    exact ⟨rfl, rfl⟩
  rcases t44 : ((c.toNat : Int) == 44) with _ | _
  rotate_left
  · obtain rfl : q = false := by rw [← hq, t32, t9, t40, t41, t44]; simp
    clear hq
    go_enter Tryz.func131, Tryz.ntmps131
    go_wp2
    go_ret
    exact ⟨rfl, rfl⟩
  rcases t34 : ((c.toNat : Int) == 34) with _ | _
  rotate_left
  · obtain rfl : q = false := by rw [← hq, t32, t9, t40, t41, t44, t34]; simp
    clear hq
    go_enter Tryz.func131, Tryz.ntmps131
    go_wp2
    go_ret
    exact ⟨rfl, rfl⟩
  obtain rfl : q = true := by rw [← hq, t32, t9, t40, t41, t44, t34]; rfl
  clear hq
  go_enter Tryz.func131, Tryz.ntmps131
  go_wp2
  go_ret
  exact ⟨rfl, rfl⟩
theorem mayStand_is {c : UInt8} {b : Bool} {w : World} (h : Box (plainC c = b)) :
    Calls Tryz.prog 131 #[.int .u8 (c.toNat : Int)] w fun e w' => e = .returned (.bool b) ∧ w = w' :=
  (mayStand_any c w).mono fun e w' ⟨h1, h2⟩ => ⟨by rw [h1, h.out], h2⟩
/-- a byte that is written outside quoted strings -/
def writC (c : UInt8) : Bool := visI c.toNat && plainC c
theorem isWrit_any (c : UInt8) (w : World) :
    Calls Tryz.prog 104 #[.int .u8 (c.toNat : Int)] w fun e w' => e = .returned (.bool (writC c)) ∧ w = w' := by
  obtain ⟨q, hq⟩ : ∃ q, plainC c = q := ⟨_, rfl⟩
  have HQ := box hq
  have hv : writC c = (visI c.toNat && q) := by unfold writC; rw [hq]
  rw [hv]
  clear hq hv
  by_cases h1 : (33 : Int) ≤ (c.toNat : Int)
  · by_cases h2 : (c.toNat : Int) ≤ 126
    · have hv : visI c.toNat = true := by unfold visI; exact decide_eq_true ⟨h1, h2⟩
      rw [hv]
      clear hv
      go_enter Tryz.func104, Tryz.ntmps104
      go_wp2_with fail
      refine (mayStand_is HQ).mono ?_; rintro e w1 ⟨rfl, rfl⟩
      go_wp2
      go_ret
      exact ⟨rfl, rfl⟩
    · have hv : visI c.toNat = false := by unfold visI; exact decide_eq_false (fun h => h2 h.2)
      rw [hv]
      clear hv
      go_enter Tryz.func104, Tryz.ntmps104
      go_wp2
      go_ret
      exact ⟨rfl, rfl⟩
  · have hv : visI c.toNat = false := by unfold visI; exact decide_eq_false (fun h => h1 h.1)
    rw [hv]
    clear hv
    go_enter Tryz.func104, Tryz.ntmps104
    go_wp2
    go_ret
    exact ⟨rfl, rfl⟩
theorem isWrit_is {c : UInt8} {b : Bool} {w : World} (h : Box (writC c = b)) :
    Calls Tryz.prog 104 #[.int .u8 (c.toNat : Int)] w fun e w' => e = .returned (.bool b) ∧ w = w' :=
  (isWrit_any c w).mono fun e w' ⟨h1, h2⟩ => ⟨by rw [h1, h.out], h2⟩
/-- one or more bytes, all permitted -/
def conL (P : UInt8 → Bool) (l : List UInt8) : Bool := l.all P && !l.isEmpty
theorem con_more {P : UInt8 → Bool} {s : ByteArray} {k : Nat} (h : (s.data.toList.take k).all P = true) (hk : k < s.size) (hp : P s[k] = true) : (s.data.toList.take (k + 1)).all P = true := by
  rw [take_snoc s k hk, List.all_append, h]; simpa using hp
theorem con_no {P : UInt8 → Bool} {s : ByteArray} {k : Nat} (hk : k < s.size) (hp : P s[k] = false) : conL P s.data.toList = false := by
  have hl : k < s.data.toList.length := by simpa using hk
  have : s.data.toList.all P = false := by rw [List.all_eq_false]; exact ⟨s.data.toList[k], List.getElem_mem hl, by rw [show s.data.toList[k] = s[k] from rfl, hp]; simp⟩
  unfold conL; rw [this]; rfl
theorem con_end {P : UInt8 → Bool} {s : ByteArray} (h : (s.data.toList.take s.size).all P = true) : conL P s.data.toList = !(s.toList.isEmpty) := by
  rw [List.take_of_length_le (by simp)] at h
  unfold conL; rw [h, toList_data]; rfl
theorem conWrit_any (s : ByteArray) (z : Bool) (w : World) (hs : s.size ≤ 65000) (hz : Box (conL writC s.data.toList = z)) :
    Calls Tryz.prog 103 #[.string s, .func (.func 104) #[] #[]] w fun e w' => e = .returned (.bool z) ∧ w = w' := by
  go_enter Tryz.func103, Tryz.ntmps103
  go_wp2
  go_loop [8] (fun i => ∃ k : Nat, i = .int .i64 k ∧ k ≤ s.size ∧ Box ((s.data.toList.take k).all writC = true)) (fun i => s.size - (intOf i).toNat)
  case atStart => exact ⟨0, rfl, Nat.zero_le _, box rfl⟩
  case round =>
    obtain ⟨k, rfl, hk, HA⟩ := hrel
    by_cases hlt : k < s.size
    · have hki : (k : Int) < (s.size : Int) := by omega
      obtain ⟨c, hc⟩ : ∃ c, s[k] = c := ⟨_, rfl⟩
      obtain ⟨q, hq⟩ : ∃ q, writC c = q := ⟨_, rfl⟩
      have HQ := box hq
      cases q with
      | true =>
        have HN := box (con_more HA.out hlt (by rw [hc, hq]))
        clear hq
        go_wp2_with fail
        refine (isWrit_is HQ).mono ?_; rintro e w1 ⟨rfl, rfl⟩
        go_wp2
        go_round
        case rel => exact ⟨k + 1, by go_num, hlt, HN⟩
        case measure => simp [intOf]; omega
      | false =>
        have HN : Box (z = false) := box (by rw [← hz.out]; exact con_no hlt (by rw [hc, hq]))
        clear hq
        go_wp2_with fail
        refine (isWrit_is HQ).mono ?_; rintro e w1 ⟨rfl, rfl⟩
        go_wp2
        go_ret
        exact ⟨by rw [HN.out]; rfl, rfl⟩
    · have hki : ¬ (k : Int) < (s.size : Int) := by omega
      obtain rfl : k = s.size := by omega
      have HN : Box (z = !(s.toList.isEmpty)) := box (by rw [← hz.out]; exact con_end HA.out)
      go_wp2
      go_ret
      exact ⟨by rw [HN.out]; rfl, rfl⟩
theorem word_con (l : List UInt8) : wordW l = if conL writC l = true then l else quoteL l := by
  have e : conL writC l = (visL l && l.all plainC) := by
    unfold conL visL writC allI
    rw [Bool.eq_iff_iff]
    simp only [Bool.and_eq_true, List.all_eq_true]
    constructor
    · rintro ⟨h1, h2⟩; exact ⟨⟨h2, fun c hc => (h1 c hc).1⟩, fun c hc => (h1 c hc).2⟩
    · rintro ⟨⟨h1, h2⟩, h3⟩; exact ⟨fun c hc => ⟨h2 c hc, h3 c hc⟩, h1⟩
  unfold wordW
  rw [e]
theorem formatVal_any (t x : ByteArray) (w : World) (ht : t.size ≤ 65000) (hv : Box (bs (wordW t.data.toList) = x)) :
    Calls Tryz.prog 70 #[.string t] w fun e w' => e = .returned (.string x) ∧ Below w.heap.size w w' := by
  obtain ⟨q, hq⟩ : ∃ q, conL writC t.data.toList = q := ⟨_, rfl⟩
  have HQ := box hq
  have ht4 : t.size ≤ 1073741824 := by omega
  cases q with
  | true =>
    have HV : Box (x = t) := box (by rw [← hv.out, word_con, hq, if_pos rfl, ← bs_of t])
    clear hq
    go_enter Tryz.func70, Tryz.ntmps70
    go_wp2_with fail
    refine (conWrit_any t true _ ht HQ).mono ?_; rintro e w1 ⟨rfl, rfl⟩
    go_wp2
    go_ret
    exact ⟨by rw [HV.out]; rfl, Below.refl _ _⟩
  | false =>
    have HV : Box (bs (quoteL t.data.toList) = x) := box (by rw [← hv.out, word_con, hq, if_neg (by simp)])
    clear hq
    go_enter Tryz.func70, Tryz.ntmps70
    go_wp2_with fail
    refine (conWrit_any t false _ ht HQ).mono ?_; rintro e w1 ⟨rfl, rfl⟩
    go_wp2_with fail
    refine (aQuote_is ht4 HV).mono ?_; rintro e w2 ⟨rfl, hb2⟩
    have B2 := box hb2
    clear hb2
    go_wp2
    go_ret
    exact ⟨rfl, B2.out⟩
end
section
open Go.RowKit
theorem rJoin15_is {a : Option Addr} {n cap : Nat} {L : List ByteArray} {x : ByteArray} {w : World} (hn : Box (L.length = n)) (hl : Box (L.length ≤ 65536)) (hz : Box (∀ x ∈ L, x.size ≤ 65536)) (hF : Ss w a L) (h : Box (joinB L = x)) :
    Calls Tryz.prog 74 #[.slice a n cap] w fun e w' => e = .returned (.string x) ∧ w = w' := by
  have := (rJoin7_any a cap L w hl.out hz (box hF))
  rw [hn.out, h.out] at this; exact this
theorem rVis15_is {s : ByteArray} {b : Bool} {w : World} (hs : s.size ≤ maxLen) (h : Box (visL s.data.toList = b)) :
    Calls Tryz.prog 110 #[.string s] w fun e w' => e = .returned (.bool b) ∧ w = w' :=
  (rVisible_any s w hs).mono fun e w' ⟨h1, h2⟩ => ⟨by rw [h1, h.out], h2⟩
theorem plain_more {v : ByteArray} {m : Nat} (h : m < v.size) : (v.data.toList.take (m + 1)).all plainC = ((v.data.toList.take m).all plainC && plainC v[m]) := by
  have hl : m < v.data.toList.length := by simpa using h
  rw [take_next hl, List.all_append]
  have : v.data.toList[m] = v[m] := rfl
  rw [this]; simp
def WrRel (V : List ByteArray) (W : World) (s i : Value) (wr : World) : Prop :=
  ∃ (k : Nat) (x : ByteArray), i = .int .i64 k ∧ s = .string x ∧ k ≤ V.length ∧ x.data.toList = 40 :: joinW ((V.map fun v => v.data.toList).take k) ∧ x.size ≤ 2 + 3000 * k ∧ Below W.heap.size W wr
set_option maxHeartbeats 8000000 in
theorem rWritten_any (a : Option Addr) (cap : Nat) (V : List ByteArray) (w : World) (hl : V.length ≤ 65536) (hz : Box (∀ v ∈ V, v.size ≤ 1000)) (hF : Box (Ss w a V)) :
    Calls Tryz.prog 75 #[.slice a V.length cap] w fun e w' => e = .returned (.string (bs (writL (V.map fun v => v.data.toList)))) ∧ Below w.heap.size w w' := by
  go_enter Tryz.func75, Tryz.ntmps75
  go_wp2
  go_loopw [3, 4] (fun s i wr => WrRel V w s i wr) (fun _ i _ => V.length - (intOf i).toNat)
  case atStart => exact ⟨0, ⟨#[40]⟩, rfl, rfl, Nat.zero_le _, rfl, by decide, Below.refl _ _⟩
  case round =>
    obtain ⟨k, x, rfl, rfl, hk, hx, hxz, hbel⟩ := hrel
    have HX := box hx
    have BL := box hbel
    have hs0 := hbel.size
    clear hx hbel
    by_cases hlt : k < V.length
    · have hki : (k : Int) < (V.length : Int) := by omega
      obtain ⟨g, off, rfl, c0⟩ := (hF.out.below BL.out) k hlt
      obtain ⟨v, hv⟩ : ∃ v, V[k] = v := ⟨_, rfl⟩
      rw [hv] at c0
      have hvz : v.size ≤ 1000 := by rw [← hv]; exact hz.out _ (List.getElem_mem hlt)
      have hvm : v.size ≤ maxLen := by unfold maxLen; omega
      have hvq : v.size ≤ 1073741824 := by omega
      obtain ⟨y, hy⟩ : ∃ y : ByteArray, y.data.toList = (if k = 0 then x.data.toList else x.data.toList ++ [32]) ∧ (if 0 < k then x ++ (⟨#[32]⟩ : ByteArray) else x) = y ∧ y.size ≤ 2 + 3000 * k + 1 := by
        by_cases h0 : k = 0
        · exact ⟨x, by rw [if_pos h0], by rw [if_neg (by omega)], by omega⟩
        · exact ⟨x ++ ⟨#[32]⟩, by rw [if_neg h0]; simp [ByteArray.data_append], by rw [if_pos (by omega)], by rw [ByteArray.size_append]; show _ + 1 ≤ _; omega⟩
      have hyz := hy.2.2
      obtain ⟨ww, hww⟩ : ∃ ww, bs (wordW v.data.toList) = ww := ⟨_, rfl⟩
      have hwz : ww.size ≤ 2002 := by
        rw [← hww, bs_size]; have := word_len v.data.toList; have e : v.data.toList.length = v.size := by simp
        omega
      have HN : Box ((y ++ ww).data.toList = 40 :: joinW ((V.map fun v => v.data.toList).take (k + 1))) := box (by
        have hkm : k < (V.map fun v => v.data.toList).length := by simpa using hlt
        have hvk : (V.map fun v => v.data.toList)[k] = v.data.toList := by rw [List.getElem_map, hv]
        have hwd : ww.data.toList = wordW v.data.toList := by rw [← hww]; rfl
        rw [joinW_more hkm, hvk, ByteArray.data_append, Array.toList_append, hy.1, HX.out, hwd]
        split
        · rename_i h0; subst h0; simp [joinW]
        · simp)
      have HNZ : Box ((y ++ ww).size ≤ 2 + 3000 * (k + 1)) := box (by rw [ByteArray.size_append]; omega)
      have rA : ∀ w, (Op.stringOp .add x ⟨#[32]⟩).run Tryz.prog w = .ok (.string (x ++ ⟨#[32]⟩)) w := fun w => run_string_add_sum w _ _ (by show x.size + 1 ≤ 9223372036854775807; omega)
      have rB : ∀ w, (Op.stringOp .add y ww).run Tryz.prog w = .ok (.string (y ++ ww)) w := fun w => run_string_add_sum w _ _ (by show y.size + ww.size ≤ 9223372036854775807; omega)
      obtain ⟨b0, hb0⟩ : ∃ b, visL v.data.toList = b := ⟨_, rfl⟩
      have HB0 := box hb0
      have HW := box hww
      have HY : Box ((if 0 < k then x ++ (⟨#[32]⟩ : ByteArray) else x) = y) := box hy.2.1
      clear hv hy hb0 hww HX
      by_cases h0 : k = 0
      · subst h0
        rw [Nat.add_zero] at c0
        obtain rfl : x = y := by have := HY.out; rw [if_neg (by omega)] at this; exact this
        clear HY
        go_wp2_with fail
        refine (rVis15_is hvm HB0).mono ?_; rintro e w1 ⟨rfl, rfl⟩
        go_wp2
        go_loop [5, 6] (fun b i => ∃ m : Nat, i = .int .i64 m ∧ m ≤ v.size ∧ b = .bool (b0 && (v.data.toList.take m).all plainC)) (fun _ i => v.size - (intOf i).toNat)
        case atStart => exact ⟨0, rfl, Nat.zero_le _, by simp⟩
        case round =>
          obtain ⟨m, rfl, hm, rfl⟩ := hrel
          obtain ⟨bb, hbb⟩ : ∃ b, (b0 && (v.data.toList.take m).all plainC) = b := ⟨_, rfl⟩
          by_cases hmv : m < v.size
          · have hmi : (m : Int) < (v.size : Int) := by omega
            have hP := plain_more hmv
            rcases bb with _ | _
            · have HN2 : Box ((b0 && (v.data.toList.take (m + 1)).all plainC) = false) := box (by rw [hP, ← Bool.and_assoc, hbb]; rfl)
              rw [hbb]
              clear hbb hP
              go_wp2
              go_round
              case rel => exact ⟨m + 1, by go_num, by omega, by rw [HN2.out]⟩
              case measure => simp [intOf]; omega
            · obtain ⟨q, hq⟩ : ∃ q, plainC v[m] = q := ⟨_, rfl⟩
              have HN2 : Box ((b0 && (v.data.toList.take (m + 1)).all plainC) = q) := box (by rw [hP, ← Bool.and_assoc, hbb, hq]; rfl)
              have HQ := box hq
              rw [hbb]
              clear hbb hP hq
              go_wp2_with fail
              refine (rPlain_is HQ).mono ?_; rintro e w2 ⟨rfl, rfl⟩
              go_wp2
              go_round
              case rel => exact ⟨m + 1, by go_num, by omega, by rw [HN2.out]⟩
              case measure => simp [intOf]; omega
          · have hmi : ¬ (m : Int) < (v.size : Int) := by omega
            have hbv : (visL v.data.toList && v.data.toList.all plainC) = bb := by
              rw [HB0.out, ← hbb, List.take_of_length_le (by simp; omega)]
            rw [hbb]
            rcases bb with _ | _
            · have HQ : Box (bs (quoteL v.data.toList) = ww) := box (by rw [← HW.out]; unfold wordW; rw [if_neg (by rw [hbv]; simp)])
              clear hbb hbv
              go_wp2_with fail
              refine (rQuote_is hvq HQ).mono ?_; rintro e w2 ⟨rfl, hb2⟩
              have B2 := box (BL.out.trans (hb2.mono hs0))
              clear hb2
              go_wp2
              go_roundw
              case rel => exact ⟨0 + 1, x ++ ww, by go_num, rfl, by omega, HN.out, HNZ.out, B2.out⟩
              case measure => simp [intOf]; omega
            · have hvw : v = ww := by rw [← HW.out]; unfold wordW; rw [if_pos hbv]; rfl
              subst hvw
              clear hbb hbv
              go_wp2
              go_roundw
              case rel => exact ⟨0 + 1, x ++ v, by go_num, rfl, by omega, HN.out, HNZ.out, BL.out⟩
              case measure => simp [intOf]; omega
      · have hki0 : (0 : Int) < (k : Int) := by omega
        have hxy : x ++ (⟨#[32]⟩ : ByteArray) = y := by have := HY.out; rw [if_pos (by omega)] at this; exact this
        clear HY
        go_wp2_with fail
        refine (rVis15_is hvm HB0).mono ?_; rintro e w1 ⟨rfl, rfl⟩
        go_wp2
        go_loop [5, 6] (fun b i => ∃ m : Nat, i = .int .i64 m ∧ m ≤ v.size ∧ b = .bool (b0 && (v.data.toList.take m).all plainC)) (fun _ i => v.size - (intOf i).toNat)
        case atStart => exact ⟨0, rfl, Nat.zero_le _, by simp⟩
        case round =>
          obtain ⟨m, rfl, hm, rfl⟩ := hrel
          obtain ⟨bb, hbb⟩ : ∃ b, (b0 && (v.data.toList.take m).all plainC) = b := ⟨_, rfl⟩
          by_cases hmv : m < v.size
          · have hmi : (m : Int) < (v.size : Int) := by omega
            have hP := plain_more hmv
            rcases bb with _ | _
            · have HN2 : Box ((b0 && (v.data.toList.take (m + 1)).all plainC) = false) := box (by rw [hP, ← Bool.and_assoc, hbb]; rfl)
              rw [hbb]
              clear hbb hP
              go_wp2
              go_round
              case rel => exact ⟨m + 1, by go_num, by omega, by rw [HN2.out]⟩
              case measure => simp [intOf]; omega
            · obtain ⟨q, hq⟩ : ∃ q, plainC v[m] = q := ⟨_, rfl⟩
              have HN2 : Box ((b0 && (v.data.toList.take (m + 1)).all plainC) = q) := box (by rw [hP, ← Bool.and_assoc, hbb, hq]; rfl)
              have HQ := box hq
              rw [hbb]
              clear hbb hP hq
              go_wp2_with fail
              refine (rPlain_is HQ).mono ?_; rintro e w2 ⟨rfl, rfl⟩
              go_wp2
              go_round
              case rel => exact ⟨m + 1, by go_num, by omega, by rw [HN2.out]⟩
              case measure => simp [intOf]; omega
          · have hmi : ¬ (m : Int) < (v.size : Int) := by omega
            have hbv : (visL v.data.toList && v.data.toList.all plainC) = bb := by
              rw [HB0.out, ← hbb, List.take_of_length_le (by simp; omega)]
            rw [hbb]
            rcases bb with _ | _
            · have HQ : Box (bs (quoteL v.data.toList) = ww) := box (by rw [← HW.out]; unfold wordW; rw [if_neg (by rw [hbv]; simp)])
              clear hbb hbv
              go_wp2_with fail
              refine (rQuote_is hvq HQ).mono ?_; rintro e w2 ⟨rfl, hb2⟩
              have B2 := box (BL.out.trans (hb2.mono hs0))
              clear hb2
              go_wp2
              go_roundw
              case rel => exact ⟨k + 1, y ++ ww, by go_num, rfl, by omega, HN.out, HNZ.out, B2.out⟩
              case measure => simp [intOf]; omega
            · have hvw : v = ww := by rw [← HW.out]; unfold wordW; rw [if_pos hbv]; rfl
              subst hvw
              clear hbb hbv
              go_wp2
              go_roundw
              case rel => exact ⟨k + 1, y ++ v, by go_num, rfl, by omega, HN.out, HNZ.out, BL.out⟩
              case measure => simp [intOf]; omega
    · have hki : ¬ (k : Int) < (V.length : Int) := by omega
      have hxz2 : x.size ≤ 1000000000 := by omega
      have rC : ∀ w, (Op.stringOp .add x ⟨#[41]⟩).run Tryz.prog w = .ok (.string (x ++ ⟨#[41]⟩)) w := fun w => run_string_add_sum w _ _ (by show x.size + 1 ≤ 9223372036854775807; omega)
      have HE : Box (x ++ ⟨#[41]⟩ = bs (writL (V.map fun v => v.data.toList))) := box (by
        have h1 := HX.out
        rw [List.take_of_length_le (by simp; omega)] at h1
        apply ByteArray.ext
        apply Array.toList_inj.mp
        rw [ByteArray.data_append, Array.toList_append, h1]
        unfold writL
        simp [bs])
      go_wp2
      go_ret
      exact ⟨by rw [HE.out]; rfl, BL.out⟩
theorem rWritten_is {a : Option Addr} {cap : Nat} {V : List ByteArray} {x : ByteArray} {w : World} (hl : V.length ≤ 65536) (hz : Box (∀ v ∈ V, v.size ≤ 1000)) (hF : Ss w a V) (h : Box (bs (writL (V.map fun v => v.data.toList)) = x)) :
    Calls Tryz.prog 75 #[.slice a V.length cap] w fun e w' => e = .returned (.string x) ∧ Below w.heap.size w w' :=
  (rWritten_any a cap V w hl hz (box hF)).mono fun e w' ⟨h1, h2⟩ => ⟨by rw [h1, h.out], h2⟩
def AxRel (L : List AX) (W : World) (v i : Value) (wr : World) : Prop :=
  ∃ k : Nat, i = .int .i64 k ∧ k ≤ L.length ∧ OwnS wr W.heap.size v ((L.take k).map fun x => bs (axisL x)) ∧ Below W.heap.size W wr
set_option maxHeartbeats 8000000 in
theorem rAxesText_any (a : Option Addr) (cap : Nat) (L : List AX) (w : World) (hl : L.length ≤ 65536) (hz : Box (∀ i (hi : i < L.length), fitA L[i])) (hF : Box (Axs w a L)) :
    Calls Tryz.prog 40 #[.slice a L.length cap] w fun e w' => e = .returned (.string (axesB L)) ∧ Below w.heap.size w w' := by
  go_enter Tryz.func40, Tryz.ntmps40
  go_wp2
  go_loopw [3, 4] (fun v i wr => AxRel L w v i wr) (fun _ i _ => L.length - (intOf i).toNat)
  case atStart => exact ⟨0, rfl, Nat.zero_le _, OwnS.nil _ _, Below.refl _ _⟩
  case round =>
    obtain ⟨k, rfl, hk, hO, hbel⟩ := hrel
    have O0 := box hO
    have BL := box hbel
    have hs0 := hbel.size
    obtain ⟨av, cv, rfl, _, _⟩ := hO.ss
    rw [List.length_map, List.length_take, Nat.min_eq_left hk] at O0 ⊢
    clear hO hbel
    by_cases hlt : k < L.length
    · have hki : (k : Int) < (L.length : Int) := by omega
      have hk0 : (0 : Int) ≤ (k : Int) := by omega
      obtain ⟨g, off, v, rfl, c0, c1, b, c, rfl, hss, _⟩ := (hF.out.below BL.out) k hlt
      obtain ⟨z1, z2, z3⟩ := hz.out k hlt
      have hgl : g < w.heap.size := by
        obtain ⟨g', off', v', e, c9, _⟩ := hF.out k hlt
        cases e
        exact cell_lt c9
      obtain ⟨n, hn⟩ : ∃ n, L[k].1 = n := ⟨_, rfl⟩
      obtain ⟨V, hV⟩ : ∃ V, L[k].2 = V := ⟨_, rfl⟩
      rw [hn] at c0 z1
      rw [hV] at c1 hss z2 z3
      have SS := box hss
      have Z3 := box z3
      have hVl : V.length ≤ 65536 := by omega
      obtain ⟨x, hx⟩ : ∃ x, bs (writL (V.map fun v => v.data.toList)) = x := ⟨_, rfl⟩
      have hxz : x.size ≤ 41000 := by rw [← hx, bs_size]; exact writ_len z2 z3
      have HX := box hx
      have r1 : ∀ w, (Op.stringOp .add n ⟨#[61]⟩).run Tryz.prog w = .ok (.string (n ++ ⟨#[61]⟩)) w := fun w => run_string_add_sum w _ _ (by show n.size + 1 ≤ 9223372036854775807; omega)
      have r2 : ∀ w, (Op.stringOp .add (n ++ ⟨#[61]⟩) x).run Tryz.prog w = .ok (.string (n ++ ⟨#[61]⟩ ++ x)) w := fun w => run_string_add_sum w _ _ (by rw [ByteArray.size_append]; show n.size + 1 + x.size ≤ 9223372036854775807; omega)
      have HT : Box ((L.take (k + 1)).map (fun x => bs (axisL x)) = (L.take k).map (fun x => bs (axisL x)) ++ [n ++ ⟨#[61]⟩ ++ x]) := box (by
        rw [take_next hlt, List.map_append]
        congr 1
        rw [List.map_cons, List.map_nil]
        congr 1
        rw [bs_of (n ++ ⟨#[61]⟩ ++ x)]
        congr 1
        rw [ByteArray.data_append, ByteArray.data_append, Array.toList_append, Array.toList_append]
        unfold axisL
        rw [hn, hV, ← hx]
        simp [bs])
      have hlen : Box (((L.take k).map fun x => bs (axisL x)).length ≤ 65536) := box (by rw [List.length_map, List.length_take]; omega)
      clear hss z3 hn hV hx
      go_wp2
      refine wp_region_held_drew (S := (fun w' : World => (w'.cell? ⟨g, off + k * 2, none⟩ = some (.string n) ∧ w'.cell? ⟨g, off + k * 2 + 1, none⟩ = some (.slice b V.length c)) ∧ Box (Below w.heap.size w w'))) (by kernel_rfl) ⟨⟨c0, c1⟩, box BL.out.drew⟩ (fun hHeld => ?_)
      refine wpAnyH_take (i := 0) (oi := { dst := some 11, op := Op.move (Operand.tmp 3), type := 29, pos := "variants.go:200", after := #[], guard := none }) (v := ?v0z1) rfl (by kernel_rfl) (by kernel_rfl) (by kernel_rfl) (fun _ _ _ h => h) (Or.inl ⟨by rfl, ?y0z1⟩) (by assumption) ?r0z1
      case y0z1 => (intro w hSw; (try dsimp only at hSw); go_simp; first | done | with_reducible rfl)
      try simp only [Act.put, List.setIfInBounds_toArray, List.set_cons_zero, List.set_cons_succ]
      refine wpAnyH_take (i := 1) (oi := { dst := some 12, op := Op.move (Operand.tmp 0), type := 22, pos := "variants.go:200", after := #[], guard := none }) (v := ?v1z1) rfl (by kernel_rfl) (by kernel_rfl) (by kernel_rfl) (fun _ _ _ h => h) (Or.inl ⟨by rfl, ?y1z1⟩) (by assumption) ?r1z1
      case y1z1 => (intro w hSw; (try dsimp only at hSw); go_simp; first | done | with_reducible rfl)
      try simp only [Act.put, List.setIfInBounds_toArray, List.set_cons_zero, List.set_cons_succ]
      refine wpAnyH_take (i := 2) (oi := { dst := some 13, op := Op.move (Operand.tmp 4), type := 3, pos := "variants.go:200", after := #[], guard := none }) (v := ?v2z1) rfl (by kernel_rfl) (by kernel_rfl) (by kernel_rfl) (fun _ _ _ h => h) (Or.inl ⟨by rfl, ?y2z1⟩) (by assumption) ?r2z1
      case y2z1 => (intro w hSw; (try dsimp only at hSw); go_simp; first | done | with_reducible rfl)
      try simp only [Act.put, List.setIfInBounds_toArray, List.set_cons_zero, List.set_cons_succ]
      refine wpAnyH_take (i := 3) (oi := { dst := some 14, op := Op.indexAddr 22 (Operand.tmp 12) (Operand.tmp 13), type := 0, pos := "variants.go:200", after := #[{ on := 1, ground := Ground.data }, { on := 2, ground := Ground.data }], guard := none }) (v := ?v3z1) rfl (by kernel_rfl) (by kernel_rfl) (by kernel_rfl) (fun _ _ _ h => h) (Or.inl ⟨by rfl, ?y3z1⟩) (by assumption) ?r3z1
      case y3z1 => (intro w hSw; (try dsimp only at hSw); go_simp; first | done | with_reducible rfl)
      try simp only [Act.put, List.setIfInBounds_toArray, List.set_cons_zero, List.set_cons_succ]
      refine wpAnyH_take (i := 4) (oi := { dst := some 15, op := Op.fieldAddr 39 (Operand.tmp 14) 0, type := 0, pos := "variants.go:200", after := #[{ on := 3, ground := Ground.data }], guard := none }) (v := ?v4z1) rfl (by kernel_rfl) (by kernel_rfl) (by kernel_rfl) (fun _ _ _ h => h) (Or.inl ⟨by rfl, ?y4z1⟩) (by assumption) ?r4z1
      case y4z1 => (intro w hSw; (try dsimp only at hSw); go_simp; first | done | with_reducible rfl)
      try simp only [Act.put, List.setIfInBounds_toArray, List.set_cons_zero, List.set_cons_succ]
      refine wpAnyH_take (i := 5) (oi := { dst := some 16, op := Op.load 9 (Operand.tmp 15), type := 9, pos := "variants.go:200", after := #[{ on := 4, ground := Ground.data }], guard := none }) (v := ?v5z1) rfl (by kernel_rfl) (by kernel_rfl) (by kernel_rfl) (fun _ _ _ h => h) (Or.inl ⟨by rfl, ?y5z1⟩) (by assumption) ?r5z1
      case y5z1 => (intro w hSw; (try dsimp only at hSw); go_simp; first | done | with_reducible rfl)
      try simp only [Act.put, List.setIfInBounds_toArray, List.set_cons_zero, List.set_cons_succ]
      refine wpAnyH_take (i := 6) (oi := { dst := some 17, op := Op.binOp BinOp.add 9 (Operand.tmp 16) (Operand.const (Value.string { data := #[61] })) 9, type := 9, pos := "variants.go:200", after := #[{ on := 5, ground := Ground.data }], guard := none }) (v := ?v6z1) rfl (by kernel_rfl) (by kernel_rfl) (by kernel_rfl) (fun _ _ _ h => h) (Or.inl ⟨by rfl, ?y6z1⟩) (by assumption) ?r6z1
      case y6z1 => (intro w hSw; (try dsimp only at hSw); go_simp; first | done | with_reducible rfl)
      try simp only [Act.put, List.setIfInBounds_toArray, List.set_cons_zero, List.set_cons_succ]
      refine wpAnyH_take (i := 7) (oi := { dst := some 18, op := Op.move (Operand.tmp 0), type := 22, pos := "variants.go:200", after := #[], guard := none }) (v := ?v7z1) rfl (by kernel_rfl) (by kernel_rfl) (by kernel_rfl) (fun _ _ _ h => h) (Or.inl ⟨by rfl, ?y7z1⟩) (by assumption) ?r7z1
      case y7z1 => (intro w hSw; (try dsimp only at hSw); go_simp; first | done | with_reducible rfl)
      try simp only [Act.put, List.setIfInBounds_toArray, List.set_cons_zero, List.set_cons_succ]
      refine wpAnyH_take (i := 8) (oi := { dst := some 19, op := Op.move (Operand.tmp 4), type := 3, pos := "variants.go:200", after := #[], guard := none }) (v := ?v8z1) rfl (by kernel_rfl) (by kernel_rfl) (by kernel_rfl) (fun _ _ _ h => h) (Or.inl ⟨by rfl, ?y8z1⟩) (by assumption) ?r8z1
      case y8z1 => (intro w hSw; (try dsimp only at hSw); go_simp; first | done | with_reducible rfl)
      try simp only [Act.put, List.setIfInBounds_toArray, List.set_cons_zero, List.set_cons_succ]
      refine wpAnyH_take (i := 9) (oi := { dst := some 20, op := Op.indexAddr 22 (Operand.tmp 18) (Operand.tmp 19), type := 0, pos := "variants.go:200", after := #[{ on := 7, ground := Ground.data }, { on := 8, ground := Ground.data }], guard := none }) (v := ?v9z1) rfl (by kernel_rfl) (by kernel_rfl) (by kernel_rfl) (fun _ _ _ h => h) (Or.inl ⟨by rfl, ?y9z1⟩) (by assumption) ?r9z1
      case y9z1 => (intro w hSw; (try dsimp only at hSw); go_simp; first | done | with_reducible rfl)
      try simp only [Act.put, List.setIfInBounds_toArray, List.set_cons_zero, List.set_cons_succ]
      refine wpAnyH_take (i := 10) (oi := { dst := some 21, op := Op.fieldAddr 39 (Operand.tmp 20) 1, type := 0, pos := "variants.go:200", after := #[{ on := 9, ground := Ground.data }], guard := none }) (v := ?v10z1) rfl (by kernel_rfl) (by kernel_rfl) (by kernel_rfl) (fun _ _ _ h => h) (Or.inl ⟨by rfl, ?y10z1⟩) (by assumption) ?r10z1
      case y10z1 => (intro w hSw; (try dsimp only at hSw); go_simp; first | done | with_reducible rfl)
      try simp only [Act.put, List.setIfInBounds_toArray, List.set_cons_zero, List.set_cons_succ]
      refine wpAnyH_take (i := 11) (oi := { dst := some 22, op := Op.load 29 (Operand.tmp 21), type := 29, pos := "variants.go:200", after := #[{ on := 10, ground := Ground.data }], guard := none }) (v := ?v11z1) rfl (by kernel_rfl) (by kernel_rfl) (by kernel_rfl) (fun _ _ _ h => h) (Or.inl ⟨by rfl, ?y11z1⟩) (by assumption) ?r11z1
      case y11z1 => (intro w hSw; (try dsimp only at hSw); go_simp; first | done | with_reducible rfl)
      try simp only [Act.put, List.setIfInBounds_toArray, List.set_cons_zero, List.set_cons_succ]
      refine wpAnyH_ready (rs := [12]) (by kernel_rfl) (by simp) ?_
      refine AllReadyH.cons (o := { dst := some 23, op := Op.call { callee := Callee.value (Operand.func 75), args := #[Operand.tmp 22], argTypes := #[29] }, type := 9, pos := "variants.go:200", after := #[{ on := 11, ground := Ground.data }], guard := none }) rfl (fun K hK => ?_) AllReadyH.nil
      go_simp
      refine (rWritten_is hVl Z3 (SS.out.below (Below.refl _ _).drew) HX).mono ?_; rintro e w2 ⟨rfl, hb2⟩
      have O2 := box (own_below (show OwnS wr.drew w.heap.size _ _ from O0.out) hb2)
      have BW2 := box (hHeld.2.out.trans (hb2.mono hHeld.2.out.size))
      go_wp2_with fail
      refine hK.out _ _ ⟨⟨(hb2.cell (p := ⟨g, off + k * 2, none⟩) (cell_lt hHeld.1.1)).trans hHeld.1.1, (hb2.cell (p := ⟨g, off + k * 2 + 1, none⟩) (cell_lt hHeld.1.2)).trans hHeld.1.2⟩, box (hHeld.2.out.trans (hb2.mono hHeld.2.out.size))⟩ (fun hHeld => ?_)
      clear hK K
      try simp only [Act.put, List.setIfInBounds_toArray, List.set_cons_zero, List.set_cons_succ]
      refine wpAnyH_take (i := 13) (oi := { dst := some 24, op := Op.binOp BinOp.add 9 (Operand.tmp 17) (Operand.tmp 23) 9, type := 9, pos := "variants.go:200", after := #[{ on := 6, ground := Ground.data }, { on := 12, ground := Ground.data }], guard := none }) (v := ?v13z1) rfl (by kernel_rfl) (by kernel_rfl) (by kernel_rfl) (fun _ _ _ h => h) (Or.inl ⟨by rfl, ?y13z1⟩) (by assumption) ?r13z1
      case y13z1 => (intro w hSw; (try dsimp only at hSw); go_simp; first | done | with_reducible rfl)
      try simp only [Act.put, List.setIfInBounds_toArray, List.set_cons_zero, List.set_cons_succ]
      refine wpAnyH_ready (rs := [14]) (by kernel_rfl) (by simp) ?_
      refine AllReadyH.cons (o := { dst := some 25, op := Op.buildSlice 29 1 #[(0, Operand.tmp 24)], type := 29, pos := "variants.go:200", after := #[{ on := 13, ground := Ground.data }], guard := none }) rfl (fun K hK => ?_) AllReadyH.nil
      go_simp
      go_wp2_with fail
      refine hK.out _ _ ⟨⟨((below_new _ _).cell (p := ⟨g, off + k * 2, none⟩) (cell_lt hHeld.1.1)).trans hHeld.1.1, ((below_new _ _).cell (p := ⟨g, off + k * 2 + 1, none⟩) (cell_lt hHeld.1.2)).trans hHeld.1.2⟩, box (hHeld.2.out.trans ((below_new _ _).mono hHeld.2.out.size))⟩ (fun hHeld => ?_)
      clear hK K
      try simp only [Act.put, List.setIfInBounds_toArray, List.set_cons_zero, List.set_cons_succ]
      refine wpAnyH_ready (rs := [15]) (by kernel_rfl) (by simp) ?_
      refine AllReadyH.cons (o := { dst := some 26, op := Op.call { callee := Callee.builtin Builtin.append, args := #[Operand.tmp 11, Operand.tmp 25], argTypes := #[29, 29] }, type := 29, pos := "variants.go:200", after := #[{ on := 0, ground := Ground.data }, { on := 14, ground := Ground.data }, { on := 12, ground := Ground.chain }], guard := none }) rfl (fun K hK => ?_) AllReadyH.nil
      refine step_append_str _ rfl (.tmp 11) (.tmp 25) rfl w.heap.size _ _ rfl ?a1 _ _ rfl (n ++ ⟨#[61]⟩ ++ x) ?b1 hlen.out ?d1 ?_
      case a1 => exact own_below O2.out (below_new _ _)
      case b1 => go_simp
      case d1 => exact Nat.le_trans BW2.out.size (by simp)
      intro v6 w6 hO6 hb6
      refine hK.out _ _ ⟨⟨(hb6.cell (p := ⟨g, off + k * 2, none⟩) hgl).trans hHeld.1.1, (hb6.cell (p := ⟨g, off + k * 2 + 1, none⟩) hgl).trans hHeld.1.2⟩, box (hHeld.2.out.trans hb6)⟩ (fun hHeld => ?_)
      clear hK K
      try simp only [Act.put, List.setIfInBounds_toArray, List.set_cons_zero, List.set_cons_succ]
      refine wpAnyH_take (i := 16) (oi := { dst := some 3, op := Op.assign (Operand.tmp 26), type := 29, pos := "variants.go:200", after := #[{ on := 15, ground := Ground.data }, { on := 15, ground := Ground.chain }, { on := 0, ground := Ground.phase }, { on := 1, ground := Ground.phase }, { on := 2, ground := Ground.phase }, { on := 3, ground := Ground.phase }, { on := 4, ground := Ground.phase }, { on := 5, ground := Ground.phase }, { on := 6, ground := Ground.phase }, { on := 7, ground := Ground.phase }, { on := 8, ground := Ground.phase }, { on := 9, ground := Ground.phase }, { on := 10, ground := Ground.phase }, { on := 11, ground := Ground.phase }, { on := 12, ground := Ground.phase }, { on := 13, ground := Ground.phase }, { on := 14, ground := Ground.phase }, { on := 15, ground := Ground.phase }], guard := none }) (v := ?v16z1) rfl (by kernel_rfl) (by kernel_rfl) (by kernel_rfl) (fun _ _ _ h => h) (Or.inl ⟨by rfl, ?y16z1⟩) (by assumption) ?r16z1
      case y16z1 => (intro w hSw; (try dsimp only at hSw); go_simp; first | done | with_reducible rfl)
      try simp only [Act.put, List.setIfInBounds_toArray, List.set_cons_zero, List.set_cons_succ]
      refine wpAnyH_done (by kernel_rfl) ?_ _
      all_goals
        rw [← HT.out] at hO6
        have O6 := box hO6
        have B6 := hHeld.2
        clear hO6 hb6 hb2 hHeld
        go_wp2
        go_roundw
        case rel => exact ⟨k + 1, by go_num, by omega, O6.out, B6.out⟩
        case measure => simp [intOf]; omega
    · have hki : ¬ (k : Int) < (L.length : Int) := by omega
      obtain rfl : k = L.length := by omega
      rw [List.take_length] at O0
      have HJ : Box (joinB (L.map fun x => bs (axisL x)) = axesB L) := box rfl
      have hml : Box ((L.map fun x => bs (axisL x)).length = L.length) := box (List.length_map _)
      have hml6 : Box ((L.map fun x => bs (axisL x)).length ≤ 65536) := box (by rw [List.length_map]; exact hl)
      have hsz : Box (∀ y ∈ L.map (fun x => bs (axisL x)), y.size ≤ 65536) := box (fun y hy => by
        obtain ⟨x, hx, rfl⟩ := List.mem_map.1 hy
        obtain ⟨i, hi, rfl⟩ := List.mem_iff_getElem.1 hx
        obtain ⟨z1, z2, z3⟩ := hz.out i hi
        rw [bs_size]
        unfold axisL
        rw [List.length_append, List.length_cons]
        have := writ_len z2 z3
        have e : L[i].1.data.toList.length = L[i].1.size := by simp
        omega)
      obtain ⟨p, c, e, hSs, _⟩ := O0.out.ss
      injection e with e1 e2 e3
      subst e1
      clear e2 e3
      have SS := box hSs
      clear hSs
      go_wp2_with fail
      refine (rJoin15_is hml hml6 hsz SS.out HJ).mono ?_; rintro e w3 ⟨rfl, rfl⟩
      go_wp2
      go_ret
      exact ⟨rfl, BL.out⟩
end
section
open Go.RowKit
/-- the words of the first k values -/
def wtB (V : List ByteArray) (k : Nat) : List ByteArray := (V.take k).map fun x => bs (wordW x.data.toList)
theorem wtB_len {V : List ByteArray} {k : Nat} (h : k ≤ V.length) : (wtB V k).length = k := by unfold wtB; rw [List.length_map, List.length_take, Nat.min_eq_left h]
def GfRel (V : List ByteArray) (W : World) (v i : Value) (wr : World) : Prop :=
  ∃ k : Nat, i = .int .i64 k ∧ k ≤ V.length ∧ OwnS wr W.heap.size v (wtB V k) ∧ Below W.heap.size W wr
theorem join0_any (a : Option Addr) (cap : Nat) (L : List ByteArray) (x : ByteArray) (w : World) (hl : L.length ≤ 65536) (hc : L.length ≤ cap) (hz : Box (∀ x ∈ L, x.size ≤ 65536)) (hF : Box (Ss w a L)) (hx : Box (joinSB L = x)) :
    Calls Tryz.prog 71 #[.slice a L.length cap, .string ⟨#[32]⟩] w fun e w' => e = .returned (.string x) ∧ Below w.heap.size w w' := by
  by_cases h0 : L.length = 0
  · have hL : L = [] := List.eq_nil_of_length_eq_zero h0
    subst hL
    refine (Jsp0_any a cap w).mono ?_; rintro e w1 ⟨rfl, rfl⟩
    exact ⟨by rw [← hx.out]; rfl, Below.refl _ _⟩
  · obtain ⟨q, off, rfl, c0⟩ := hF.out 0 (by omega)
    by_cases h1 : L.length = 1
    · obtain ⟨y, rfl⟩ := List.length_eq_one_iff.1 h1
      refine (Jsp1_any q off cap y w (by simpa using c0)).mono ?_; rintro e w1 ⟨rfl, rfl⟩
      refine ⟨?_, Below.refl _ _⟩
      have : joinSB [y] = y := by unfold joinSB; simp [joinSp, ← bs_of]
      rw [← hx.out, this]
    · refine (JspN_any q off cap L w (by omega) hl hc hz hF).mono ?_; rintro e w1 ⟨rfl, hb⟩
      exact ⟨by rw [hx.out], hb⟩
theorem join_any (a : Option Addr) (cap n : Nat) (L : List ByteArray) (x : ByteArray) (w : World) (hn : Box (L.length = n)) (hl : n ≤ 65536) (hc : n ≤ cap) (hz : Box (∀ x ∈ L, x.size ≤ 65536)) (hF : Box (Ss w a L)) (hx : Box (joinSB L = x)) :
    Calls Tryz.prog 71 #[.slice a n cap, .string ⟨#[32]⟩] w fun e w' => e = .returned (.string x) ∧ Below w.heap.size w w' := by
  have h := hn.out
  subst h
  exact join0_any a cap L x w hl hc hz hF hx
set_option maxHeartbeats 4000000 in
theorem grpFormat_any (a : Option Addr) (cap : Nat) (V : List ByteArray) (x : ByteArray) (w : World) (hl : V.length ≤ 20) (hz : Box (∀ v ∈ V, v.size ≤ 1000)) (hF : Box (Ss w a V)) (hx : Box (bs (writL (V.map fun v => v.data.toList)) = x)) :
    Calls Tryz.prog 36 #[.slice a V.length cap] w fun e w' => e = .returned (.string x) ∧ Below w.heap.size w w' := by
  go_enter Tryz.func36, Tryz.ntmps36
  go_wp2
  go_loopw [3, 8] (fun v i wr => GfRel V w v i wr) (fun _ i _ => V.length - (intOf i).toNat)
  case atStart => exact ⟨0, rfl, Nat.zero_le _, OwnS.nil _ _, Below.refl _ _⟩
  case round =>
    obtain ⟨k, rfl, hk, hO, hbel⟩ := hrel
    have O0 := box hO
    have BL := box hbel
    have hBw := hbel.size
    obtain ⟨av, cv, rfl, hss, hcv⟩ := hO.ss
    rw [wtB_len hk] at O0 hcv ⊢
    have SS := box hss
    clear hO hbel hss
    by_cases hlt : k < V.length
    · obtain ⟨g, off, rfl, c0⟩ := (hF.out.below BL.out) k hlt
      have hvz := hz.out V[k] (List.getElem_mem hlt)
      obtain ⟨y, hy⟩ : ∃ y, V[k] = y := ⟨_, rfl⟩
      obtain ⟨z, hzq⟩ : ∃ z, bs (wordW y.data.toList) = z := ⟨_, rfl⟩
      rw [hy] at c0 hvz
      have HZ := box hzq
      have hv6 : y.size ≤ 65000 := by omega
      have HX : Box (wtB V (k + 1) = wtB V k ++ [z]) := box (by
        unfold wtB
        rw [take_next hlt, List.map_append, List.map_cons, List.map_nil, hy, hzq])
      have hk6 : Box ((wtB V k).length ≤ 65536) := box (by rw [wtB_len hk]; omega)
      clear hy hzq
      go_wp2_with fail
      refine (formatVal_any y z _ hv6 HZ).mono ?_; rintro e w1 ⟨rfl, hb1⟩
      have O1 := box (own_below O0.out hb1)
      have B1 := box (BL.out.trans (hb1.mono hBw))
      have hBw1 := B1.out.size
      clear hb1 c0
      go_wp2_with (at_builtin; refine wpList_append_str _ rfl (.tmp 12) (.tmp 15) rfl w.heap.size _ (wtB V k) rfl ?a1 _ _ rfl z ?b1 ?c1 ?d1 ?_)
      case a1 => exact own_below O1.out (below_new _ _)
      case b1 => go_simp
      case c1 => exact hk6.out
      case d1 => simp; omega
      intro v3 w3 hO3 hb3
      have O3 := box hO3
      have B3 := box ((B1.out.alloc hBw1 _).trans hb3)
      clear hO3 hb3
      go_wp2
      go_roundw
      case rel => exact ⟨k + 1, by go_num, by omega, by rw [HX.out]; exact O3.out, B3.out⟩
      case measure => simp [intOf]; omega
    · obtain rfl : k = V.length := by omega
      obtain ⟨L, hL⟩ : ∃ L, wtB V V.length = L := ⟨_, rfl⟩
      have hLl : L.length = V.length := by rw [← hL]; exact wtB_len (Nat.le_refl _)
      have hLz : Box (∀ x ∈ L, x.size ≤ 65536) := box (fun x hx => by
        rw [← hL] at hx
        unfold wtB at hx
        rw [List.take_length] at hx
        obtain ⟨v, hv, rfl⟩ := List.mem_map.1 hx
        have h1 := hz.out v hv
        have h2 := word_len v.data.toList
        rw [bs_size]
        have : v.data.toList.length = v.size := by simp
        omega)
      obtain ⟨y, hy⟩ : ∃ y, joinSB L = y := ⟨_, rfl⟩
      have HY := box hy
      have hyl : y.data.toList = joinW (V.map fun v => v.data.toList) := by
        rw [← hy, ← hL, joinW_sp]
        unfold joinSB wtB
        rw [bs_toList, List.take_length, List.map_map, List.map_map]
        rfl
      have HE : Box ((⟨#[40]⟩ : ByteArray) ++ y ++ (⟨#[41]⟩ : ByteArray) = x) := box (by
        rw [← hx.out]
        unfold writL
        rw [← hyl, bs_of ((⟨#[40]⟩ : ByteArray) ++ y ++ (⟨#[41]⟩ : ByteArray))]
        rfl)
      have hyz : y.size ≤ 41000 := by
        have h1 := writ_len hl hz.out
        unfold writL at h1
        rw [← hyl] at h1
        simp at h1
        omega
      rw [hL] at SS
      have HLL := box hLl
      have hl6 : V.length ≤ 65536 := by omega
      clear hL hy hyl hLl
      clear O0
      go_wp2_with fail
      refine (join_any av cv V.length L y _ HLL hl6 hcv hLz SS HY).mono ?_; rintro e w2 ⟨rfl, hb2⟩
      have B2 := box (BL.out.trans (hb2.mono hBw))
      clear hb2
      go_wp2
      go_ret
      exact ⟨by rw [← HE.out]; rfl, B2.out⟩
end
section
open Go.RowKit
/-- axes whose class can be written -/
def FitC (X : List AX) : Prop := ∀ i (h : i < X.length), X[i].1.size ≤ 1000 ∧ X[i].2.length ≤ 65000 ∧ ∀ j (hj : j < X[i].2.length), X[i].2[j].size ≤ 1000
theorem FitC.fit {X : List AX} (h : FitC X) : FitX X := fun i hi => by
  obtain ⟨h1, h2, h3⟩ := h i hi
  exact ⟨by omega, by omega, fun j hj => by have := h3 j hj; omega⟩
theorem rank_small {x : AX} {L : List F} {st : Bool} (h : ∀ j (hj : j < x.2.length), x.2[j].size ≤ 1000) : (rankS x L st).length ≤ 20 ∧ ∀ v ∈ rankS x L st, v.size ≤ 1000 :=
  ⟨by have := rankS_len x L st; omega, fun v hv => by
    obtain ⟨j, hj, e⟩ := List.getElem_of_mem (rankS_mem hv)
    have := h j hj
    rw [e] at this; exact this⟩
theorem Bld.next {w w' : World} {B b : Nat} {l : List UInt8} (h : Bld w B b l) (hb : Below w.heap.size w w') : Bld w' B b l := by
  have key : ∀ p, BldAt w B b p l → BldAt w' B b p l := fun p ⟨h1, v, h2, h3, h4⟩ => ⟨h1, v, (hb.block b (blk_lt h2)).trans h2, own_below h3 hb, h4⟩
  rcases h with h | h
  · exact .inl (key _ h)
  · exact .inr (key _ h)
theorem check_keep (B b : Nat) (l : List UInt8) (w : World) {G : Nat} {cs : Array Value} (h : Bld w B b l) (hG : w.heap[G]? = some (.cells cs 39 (0, 0))) :
    Calls Tryz.prog 69 #[.pointer (some ⟨b, 0, none⟩)] w fun e w' => e = .returned (.tuple #[]) ∧ BldAt w' B b (.pointer (some ⟨b, 0, none⟩)) l ∧ Below B w w' ∧ w'.heap[G]? = some (.cells cs 39 (0, 0)) := by
  rcases h with h | h
  · refine (check_new b w h.cell0 h.shape h.frozen0).mono ?_
    rintro e w' ⟨rfl, rfl⟩
    refine ⟨rfl, h.used _, (Below.refl B w).setCell (p := ⟨b, 0, none⟩) h.1 _, ?_⟩
    obtain ⟨_, v, hbk, _⟩ := h
    have hne : b ≠ G := by
      intro e
      subst e
      rw [hG] at hbk
      injection hbk with hbk
      injection hbk with _ h2 _
      exact absurd h2 (by decide)
    simp [World.setCell, Array.getElem?_modify, hne, hG]
  · refine (check_used b w h.cell0).mono ?_
    rintro e w' ⟨rfl, rfl⟩
    exact ⟨rfl, h, Below.refl B _, hG⟩
/-- WriteString: an axis' block stays -/
theorem WriteString_keep (B b : Nat) (l : List UInt8) (s : ByteArray) (w : World) {G : Nat} {cs : Array Value} (h : Box (Bld w B b l)) (hl : l.length + s.size ≤ 140737488355328) (hBw : B ≤ w.heap.size) (hG : w.heap[G]? = some (.cells cs 39 (0, 0))) :
    Calls Tryz.prog 35 #[.pointer (some ⟨b, 0, none⟩), .string s] w fun e w' => e = .returned (.tuple #[.int .i64 s.size, .nilIface]) ∧ BldAt w' B b (.pointer (some ⟨b, 0, none⟩)) (l ++ s.data.toList) ∧ Below B w w' ∧ w'.heap[G]? = some (.cells cs 39 (0, 0)) := by
  obtain ⟨i0, hi0, hz0, hz1, hz2⟩ := info_parts info_u8
  have HG0 := box hG
  clear hG
  go_enter Tryz.func35, Tryz.ntmps35
  go_wp2_with fail
  refine (check_keep B b l _ h.out HG0.out).mono ?_; rintro e w1 ⟨rfl, hA, hb1, hG1⟩
  obtain ⟨hB, v, hbk, hown, hne⟩ := hA
  have c0 : w1.cell? ⟨b, 0, none⟩ = some (.pointer (some ⟨b, 0, none⟩)) := by rw [Lib.cell_of_heap hbk]; rfl
  have c1 : w1.cell? ⟨b, 1, none⟩ = some v := by rw [Lib.cell_of_heap hbk]; rfl
  have hbw := hb1.size
  have B1 := box hb1
  have H1 := box hown
  have HN := box hne
  have HK := box hbk
  have HG1 := box hG1
  have HNG : Box (v.ownBlock ≠ some G) := box (Lib.ownBlock_ne hown hG1 (by decide))
  have hbG : Box (b ≠ G) := box (by
    intro e
    subst e
    rw [hG1] at hbk
    injection hbk with hbk
    injection hbk with _ h2 _
    exact absurd h2 (by decide))
  have hll : (Lib.byteCells l).length = l.length := Lib.byteCells_length l
  have hlt := blk_lt hbk
  have HGlt := box (blk_lt hG1)
  clear hb1 hown hne hbk hG1
  go_wp2_with (at_builtin; refine Lib.wpList_append_own_string _ rfl _ _ 59 9 rfl B 5 i0 Tryz.underlying59 Tryz.underlying9 hi0 hz0 hz1 hz2 _ _ _ rfl H1.out s rfl ?c3 ?c4 ?c5 ?_)
  case c3 => unfold maxLen; omega
  case c4 => omega
  case c5 => omega
  intro v' w2 hown' hgrow _
  have hb2 : w2.heap[b]? = some (.cells #[.pointer (some ⟨b, 0, none⟩), v] 61 (0, 0)) := by
    rw [hgrow.block b hlt (fun e => HN.out e.symm)]
    exact HK.out
  have HG2 : Box ((w2.setCell ⟨b, 1, none⟩ v').heap[G]? = some (.cells cs 39 (0, 0))) := box (by
    have h2 : w2.heap[G]? = some (.cells cs 39 (0, 0)) := by
      rw [hgrow.block G HGlt.out (fun e => HNG.out e.symm)]
      exact HG1.out
    simp [World.setCell, Array.getElem?_modify, hbG.out, h2])
  have d1 : w2.cell? ⟨b, 1, none⟩ = some v := by rw [Lib.cell_of_heap hb2]; rfl
  have f1 : w2.frozen? ⟨b, 1, none⟩ = false := Lib.frozen_of_heap hb2 1
  have A2 : Box (BldAt (w2.setCell ⟨b, 1, none⟩ v') B b (.pointer (some ⟨b, 0, none⟩)) (l ++ s.data.toList)) := box
    (Lib.BuilderAt.put (T := 61) (e := 5) hB hb2 (bs' := Lib.byteCells (l ++ s.data.toList)) (by
      rw [Lib.byteCells_append, List.length_append, ← Lib.strCells_eq, Lib.strCells_length, hll]; exact hown') (by decide))
  have B2 : Box (Below B w (w2.setCell ⟨b, 1, none⟩ v')) := box ((B1.out.grown hgrow (by omega) (fun k hk => (H1.out.lt k hk).1)).setCell (p := ⟨b, 1, none⟩) hB _)
  obtain ⟨ax, nx, cx, rfl⟩ : ∃ a n c, v' = .slice a n c := by
    rcases hown'.2 with ⟨hv, _⟩ | ⟨g, cap, cur, hv, _⟩
    · exact ⟨_, _, _, hv⟩
    · exact ⟨_, _, _, hv⟩
  clear hown' hgrow hb2
  go_wp2
  go_ret2
  exact ⟨rfl, A2.out, B2.out, HG2.out⟩
def ClRel (ms : List (List UInt8)) (K : Nat) (W : World) (i : Value) (wr : World) : Prop :=
  ∃ j : Nat, j ≤ ms.length ∧ i = .int .i64 j ∧ Box (Bld wr W.heap.size K (joinC (ms.take j))) ∧ Box (Below W.heap.size W wr)
theorem joinC_some {m : List UInt8} {r : List (List UInt8)} (h : m ≠ []) : joinC (m :: r) ≠ [] := by
  cases r with
  | nil => exact h
  | cons a r => exact joinC_two
set_option maxHeartbeats 8000000 in
theorem mClass_any (p : Option Addr) (cp : Nat) (X : List AX) (a : Option Addr) (cap : Nat) (L : List F) (st : Bool) (w : World) (hx : X.length ≤ 65536) (ZX : Box (FitC X)) (FL : Box (FitL L)) (hX : Box (Axs w p X)) (hF : Box (Fs w a L)) (hW : Wts w) :
    Calls Tryz.prog 12 #[.slice p X.length cp, .slice a L.length cap, .bool st] w fun e w' => e = .returned (.string (classS X L st)) ∧ Below w.heap.size w w' := by
  obtain ⟨C, hC⟩ : ∃ C, classS X L st = C := ⟨_, rfl⟩
  rw [hC]
  obtain ⟨nx, hnx⟩ : ∃ nx, X.length = nx := ⟨_, rfl⟩
  have HNX0 := box hnx
  rw [hnx]
  obtain ⟨nl, hnl⟩ : ∃ nl, L.length = nl := ⟨_, rfl⟩
  have HNL := box hnl
  rw [hnl]
  have HT := box hW
  have FX := box ZX.out.fit
  cases hv : validX X with
  | false =>
    have HV := box hv
    have HR : Box (C = ⟨#[]⟩) := box (by rw [← hC]; unfold classS; rw [if_neg (by rw [hv]; simp)])
    clear hv hC hnx hnl hW
    go_enter Tryz.func12, Tryz.ntmps12
    go_wp2_with fail
    refine (mValid17_is hx FX hX.out HV HNX0).mono ?_; rintro e w1 ⟨rfl, hb1⟩
    have B1 := box hb1
    clear hb1
    go_wp2
    go_ret
    exact ⟨by rw [HR.out]; rfl, B1.out⟩
  | true =>
    have HV := box hv
    have hx4 : X.length ≤ 4 := (validX_len hv).2
    have hx1 : 1 ≤ X.length := (validX_len hv).1
    obtain ⟨ms, hms⟩ : ∃ ms, (rankX X L st).map axisL = ms := ⟨_, rfl⟩
    have HC : Box (C = bs (joinC ms)) := box (by
      rw [← hC]
      unfold classS axesB joinB
      rw [if_pos hv, ← hms, List.map_map]
      congr 2)
    have HML : Box (ms.length = nx) := box (by rw [← hms, ← hnx]; unfold rankX; rw [List.length_map, List.length_map])
    have HMA : Box (∀ i (h : i < X.length) (h2 : i < ms.length), ms[i] = X[i].1.data.toList ++ 61 :: writL ((rankS X[i] L st).map fun v => v.data.toList)) := box (by
      subst hms; intro i h h2
      rw [List.getElem_map]
      unfold rankX
      rw [List.getElem_map]; rfl)
    have HMZ : Box (∀ m ∈ ms, m.length ≤ 65536 ∧ m ≠ []) := box (by
      intro m hm
      obtain ⟨i, hi, rfl⟩ := List.getElem_of_mem hm
      have hiX : i < X.length := by rw [hnx, ← HML.out]; exact hi
      rw [HMA.out i hiX hi]
      obtain ⟨z1, z2, z3⟩ := ZX.out i hiX
      obtain ⟨r1, r2⟩ := rank_small (L := L) (st := st) z3
      have := writ_len r1 r2
      refine ⟨?_, by simp⟩
      rw [List.length_append, List.length_cons, size_list]; omega)
    have HMZ1 : Box (∀ m ∈ ms, m.length ≤ 65536) := box (fun m hm => (HMZ.out m hm).1)
    have HNE : Box (joinC ms ≠ []) := box (by
      cases hm : ms with
      | nil => have := HML.out; rw [hm] at this; simp at this; omega
      | cons m r => exact joinC_some (HMZ.out m (by rw [hm]; simp)).2)
    have hnx4 : nx ≤ 4 := by omega
    clear hv hC hms hnx hnl hW
    go_enter Tryz.func12, Tryz.ntmps12
    go_wp2_with fail
    refine (mValid17_is hx FX hX.out HV HNX0).mono ?_; rintro e w1 ⟨rfl, hb1⟩
    have hs1 := hb1.size
    obtain ⟨K, hK⟩ : ∃ K, w1.heap.size = K := ⟨_, rfl⟩
    have hsK : w.heap.size ≤ K := by omega
    have A1 : Box (Bld (w1.alloc (.cells #[.pointer none, .slice none 0 0] 61)) w.heap.size K (joinC (ms.take 0))) := box (.inl ⟨hsK, .slice none 0 0, by rw [← hK]; exact heap_alloc_new w1 _, World.ownsRow_nil _ _ _ _, by simp [Value.ownBlock]⟩)
    have B1 := box (hb1.alloc hs1 (.cells #[.pointer none, .slice none 0 0] 61))
    have HK := box hK
    clear hb1 hK
    go_wp2
    rw [HK.out]
    go_loopw [15] (fun i wr => ClRel ms K w i wr) (fun i _ => nx - (intOf i).toNat)
    case atStart => exact ⟨0, Nat.zero_le _, rfl, A1, B1⟩
    case round =>
      obtain ⟨w3, rfl⟩ : ∃ w3, w3 = wr := ⟨_, rfl⟩
      obtain ⟨i, hi, rfl, A3, B3⟩ := hrel
      have hs3 := B3.out.size
      have hjl := joinC_len HMZ1.out i
      by_cases hlt : i < nx
      · have hii : (i : Int) < (nx : Int) := by omega
        have hi0 : (0 : Int) ≤ (i : Int) := by omega
        have hiX : i < X.length := by have := HNX0.out; omega
        have him : i < ms.length := by rw [HML.out]; exact hlt
        obtain ⟨g, off, v, rfl, c0, c1, b, c, rfl, hss, hcc⟩ := (hX.out.below B3.out) i hiX
        obtain ⟨_, _, _, e9, _, _, _, _, e10, hss9, _⟩ := hX.out i hiX
        obtain ⟨z1, z2, z3⟩ := FX.out i hiX
        obtain ⟨y1, _, y3⟩ := ZX.out i hiX
        have HMI0 := HMA.out i hiX him
        obtain ⟨r1, r2⟩ := rank_small (L := L) (st := st) y3
        obtain ⟨n, hn⟩ : ∃ n, X[i].1 = n := ⟨_, rfl⟩
        obtain ⟨V, hV⟩ : ∃ V, X[i].2 = V := ⟨_, rfl⟩
        have hxi : X[i] = (n, V) := by rw [← hn, ← hV]
        rw [hn] at c0 z1 y1 HMI0
        rw [hV] at c1 hss z2 hcc
        rw [hxi] at HMI0 r1 r2
        have Z3 : Box (∀ j (hj : j < V.length), V[j].size ≤ 20000) := box (by subst hV; exact z3)
        obtain ⟨m, hm⟩ : ∃ m, V.length = m := ⟨_, rfl⟩
        have HM := box hm
        rw [hm] at c1
        obtain ⟨r, hr⟩ : ∃ r, rankS (n, V) L st = r := ⟨_, rfl⟩
        have HR := box hr
        rw [hr] at HMI0 r1 r2
        have hr20 : r.length ≤ 20 := r1
        have HRZ := box r2
        obtain ⟨x, hx⟩ : ∃ x, bs (writL (r.map fun v => v.data.toList)) = x := ⟨_, rfl⟩
        have HXX := box hx
        have HXL : Box (x.data.toList = writL (r.map fun v => v.data.toList)) := box (by rw [← hx, bs_toList])
        have HMI := box HMI0
        have hxz : x.size ≤ 41000 := by
          have h1 := writ_len r1 r2
          rw [← HXL.out, size_list] at h1
          exact h1
        obtain ⟨u, hu⟩ : ∃ u, w3.alloc (.cells #[.string n, .slice b m c] 39) = u := ⟨_, rfl⟩
        have HU := box hu
        obtain ⟨G, hGs⟩ : ∃ G, w3.heap.size = G := ⟨_, rfl⟩
        have HGS := box hGs
        have HG : Box (u.heap[G]? = some (.cells #[.string n, .slice b m c] 39 (0, 0))) := box (by rw [← hu, ← hGs]; exact heap_alloc_new w3 _)
        have BN := below_new w3 (.cells #[.string n, .slice b m c] 39)
        rw [hu] at BN
        have AU := box (A3.out.next BN)
        have BU := box (B3.out.trans (BN.mono hs3))
        have hsu := BU.out.size
        have hss0 : Box (Ss w b V) := box (by
          obtain ⟨g2, off2, v2, e2, _, f1, b2, c2, e3, hs2, _⟩ := hX.out i hiX
          cases e2
          rw [hV] at hs2 e3
          have h1 := (B3.out.cell (cell_lt f1)).trans f1
          rw [← hm] at c1
          rw [c1] at h1
          rw [e3] at h1
          injection h1 with h1
          injection h1 with q1 q2 q3
          subst q1
          exact hs2)
        clear hn hV hss z3 y3 hxi hm hr hx hu hGs BN r1 r2 HMI0 e9 e10 hss9
        by_cases hi00 : i = 0
        · have hip : ¬ (0 : Int) < (i : Int) := by omega
          obtain ⟨u3, rfl⟩ : ∃ u3, u3 = u := ⟨_, rfl⟩
          have BU3 := BU
          have hsu3 := hsu
          have HI0 := box hi00
          have A3 : Box (Bld u3 w.heap.size K ([] : List UInt8)) := box (by have := AU.out; rw [hi00] at this; exact this)
          clear hi00
          go_wp2_with fail
          rw [HU.out, HGS.out]
          have C9 := box (show u3.heap[G]? = some (.cells #[.string n, .slice b m c] 39 (0, 0)) from HG.out)
          have d0 : u3.cell? ⟨G, 0, none⟩ = some (.string n) := by rw [Lib.cell_of_heap C9.out]; rfl
          refine (WriteString_keep w.heap.size K _ n _ A3 (by simp only [List.length_nil]; omega) hsu3 C9.out).mono ?_; rintro e w4 ⟨rfl, hA4, hb4, hG4⟩
          have A4 : Box (Bld w4 w.heap.size K (([] : List UInt8) ++ n.data.toList)) := box (.inr hA4)
          have B4 := box (BU3.out.trans hb4)
          have hs4 := B4.out.size
          have C4 := box hG4
          clear hA4 hb4 hG4 d0 C9
          go_wp2_with fail
          refine (WriteString_keep w.heap.size K _ ⟨#[61]⟩ _ A4 (by simp only [List.length_append, List.length_nil, size_list]; show _ + 1 ≤ _; omega) hs4 C4.out).mono ?_; rintro e w5 ⟨rfl, hA5, hb5, hG5⟩
          have A5 : Box (Bld w5 w.heap.size K (([] : List UInt8) ++ n.data.toList ++ [61])) := box (.inr hA5)
          have B5 := box (B4.out.trans hb5)
          have hs5 := B5.out.size
          have e0 : w5.cell? ⟨G, 0, none⟩ = some (.string n) := by rw [Lib.cell_of_heap hG5]; rfl
          have e1 : w5.cell? ⟨G, 1, none⟩ = some (.slice b m c) := by rw [Lib.cell_of_heap hG5]; rfl
          have SS := box (hss0.out.below B5.out)
          have F5 := box (hF.out.below B5.out)
          have T5 := HT.out.below B5.out
          clear hA5 hb5 hG5 C4
          go_wp2_with fail
          refine (mRanked17_is z1 z2 hcc Z3 FL SS.out F5.out T5 HR HM HNL).mono ?_; rintro e w6 ⟨v6, rfl, hO6, hb6⟩
          obtain ⟨ra, rc, rfl, hSr, _⟩ := hO6.ss
          have SR := box hSr
          have A6 := box (A5.out.next hb6)
          have B6 := box (B5.out.trans (hb6.mono hs5))
          have hs6 := B6.out.size
          clear hO6 hb6 hSr T5 e0 e1
          go_wp2_with fail
          refine (grpFormat_any ra rc r x w6 hr20 HRZ SR HXX).mono ?_; rintro e w7 ⟨rfl, hb7⟩
          have A7 := box (A6.out.next hb7)
          have B7 := box (B6.out.trans (hb7.mono hs6))
          have hs7 := B7.out.size
          clear hb7
          go_wp2_with fail
          refine (WriteString_any w.heap.size K _ x _ A7 (by simp only [List.length_append, List.length_nil, List.length_cons, size_list]; omega) hs7).mono ?_; rintro e w8 ⟨rfl, hA8, hb8⟩
          have A8 : Box (Bld w8 w.heap.size K (joinC (ms.take (i + 1)))) := box (.inr (by
            rw [joinC_more him, if_pos HI0.out, HMI.out, ← HXL.out]
            simpa using hA8))
          have B8 := box (B7.out.trans hb8)
          clear hA8 hb8
          go_wp2
          go_roundw
          case rel => exact ⟨i + 1, by omega, by go_num, A8, B8⟩
          case measure => simp [intOf]; omega
        · have hip : (0 : Int) < (i : Int) := by omega
          go_wp2_with fail
          rw [HU.out, HGS.out]
          refine (WriteString_keep w.heap.size K _ ⟨#[44, 32]⟩ _ AU (by show _ + 2 ≤ _; omega) hsu HG.out).mono ?_; rintro e u3 ⟨rfl, hA2, hb2, hG3⟩
          have A3 : Box (Bld u3 w.heap.size K (joinC (ms.take i) ++ [44, 32])) := box (.inr hA2)
          have BU3 := box (BU.out.trans hb2)
          have hsu3 := BU3.out.size
          clear hA2 hb2
          have C9 := box (show u3.heap[G]? = some (.cells #[.string n, .slice b m c] 39 (0, 0)) from hG3)
          have d0 : u3.cell? ⟨G, 0, none⟩ = some (.string n) := by rw [Lib.cell_of_heap C9.out]; rfl
          go_wp2_with fail
          refine (WriteString_keep w.heap.size K _ n _ A3 (by simp only [List.length_append, List.length_nil, List.length_cons]; omega) hsu3 C9.out).mono ?_; rintro e w4 ⟨rfl, hA4, hb4, hG4⟩
          have A4 : Box (Bld w4 w.heap.size K (joinC (ms.take i) ++ [44, 32] ++ n.data.toList)) := box (.inr hA4)
          have B4 := box (BU3.out.trans hb4)
          have hs4 := B4.out.size
          have C4 := box hG4
          clear hA4 hb4 hG4 d0 C9
          go_wp2_with fail
          refine (WriteString_keep w.heap.size K _ ⟨#[61]⟩ _ A4 (by simp only [List.length_append, List.length_nil, List.length_cons, size_list]; show _ + 1 ≤ _; omega) hs4 C4.out).mono ?_; rintro e w5 ⟨rfl, hA5, hb5, hG5⟩
          have A5 : Box (Bld w5 w.heap.size K (joinC (ms.take i) ++ [44, 32] ++ n.data.toList ++ [61])) := box (.inr hA5)
          have B5 := box (B4.out.trans hb5)
          have hs5 := B5.out.size
          have e0 : w5.cell? ⟨G, 0, none⟩ = some (.string n) := by rw [Lib.cell_of_heap hG5]; rfl
          have e1 : w5.cell? ⟨G, 1, none⟩ = some (.slice b m c) := by rw [Lib.cell_of_heap hG5]; rfl
          have SS := box (hss0.out.below B5.out)
          have F5 := box (hF.out.below B5.out)
          have T5 := HT.out.below B5.out
          clear hA5 hb5 hG5 C4
          go_wp2_with fail
          refine (mRanked17_is z1 z2 hcc Z3 FL SS.out F5.out T5 HR HM HNL).mono ?_; rintro e w6 ⟨v6, rfl, hO6, hb6⟩
          obtain ⟨ra, rc, rfl, hSr, _⟩ := hO6.ss
          have SR := box hSr
          have A6 := box (A5.out.next hb6)
          have B6 := box (B5.out.trans (hb6.mono hs5))
          have hs6 := B6.out.size
          clear hO6 hb6 hSr T5 e0 e1
          go_wp2_with fail
          refine (grpFormat_any ra rc r x w6 hr20 HRZ SR HXX).mono ?_; rintro e w7 ⟨rfl, hb7⟩
          have A7 := box (A6.out.next hb7)
          have B7 := box (B6.out.trans (hb7.mono hs6))
          have hs7 := B7.out.size
          clear hb7
          go_wp2_with fail
          refine (WriteString_any w.heap.size K _ x _ A7 (by simp only [List.length_append, List.length_nil, List.length_cons, size_list]; omega) hs7).mono ?_; rintro e w8 ⟨rfl, hA8, hb8⟩
          have A8 : Box (Bld w8 w.heap.size K (joinC (ms.take (i + 1)))) := box (.inr (by
            rw [joinC_more him, if_neg hi00, HMI.out, ← HXL.out]
            simpa using hA8))
          have B8 := box (B7.out.trans hb8)
          clear hA8 hb8
          go_wp2
          go_roundw
          case rel => exact ⟨i + 1, by omega, by go_num, A8, B8⟩
          case measure => simp [intOf]; omega
      · have hii : ¬ (i : Int) < (nx : Int) := by omega
        have hin : i = nx := by have := HML.out; omega
        subst hin
        have HTM : Box (ms.take i = ms) := box (List.take_of_length_le (by rw [HML.out]; exact Nat.le_refl _))
        rw [HTM.out] at A3
        go_wp2_with fail
        refine (String_any w.heap.size K _ _ A3 HNE.out).mono ?_; rintro e w4 ⟨rfl, hb4⟩
        have B4 := box (B3.out.trans (hb4.mono (Nat.le_refl _)))
        clear hb4
        go_wp2
        go_ret
        exact ⟨by rw [HC.out]; rfl, B4.out⟩
theorem mClass_is {p : Option Addr} {cp nx : Nat} {X : List AX} {a : Option Addr} {cap nl : Nat} {L : List F} {st : Bool} {C : ByteArray} {w : World} (hx : X.length ≤ 65536) (ZX : Box (FitC X)) (FL : Box (FitL L)) (hX : Axs w p X) (hF : Fs w a L) (hW : Wts w) (h : Box (classS X L st = C)) (hnx : Box (X.length = nx)) (hnl : Box (L.length = nl)) :
    Calls Tryz.prog 12 #[.slice p nx cp, .slice a nl cap, .bool st] w fun e w' => e = .returned (.string C) ∧ Below w.heap.size w w' := by
  have := mClass_any p cp X a cap L st w hx ZX FL (box hX) (box hF) hW
  rw [h.out, hnx.out, hnl.out] at this; exact this
set_option maxHeartbeats 2000000 in
theorem mSame18_is {p : Option Addr} {cp nx : Nat} {X : List AX} {a b : Option Addr} {ca cb nl nm : Nat} {L M : List F} {st q : Bool} {w : World} (hx : X.length ≤ 65536) (ZX : Box (FitC X)) (FL : Box (FitL L)) (FM : Box (FitL M)) (hX : Axs w p X) (hF : Fs w a L) (hG : Fs w b M) (hW : Wts w) (h : Box (sameC X L M st = q)) (hnx : Box (X.length = nx)) (hnl : Box (L.length = nl)) (hnm : Box (M.length = nm)) :
    Calls Tryz.prog 14 #[.slice p nx cp, .slice a nl ca, .slice b nm cb, .bool st] w fun e w' => e = .returned (.bool q) ∧ Below w.heap.size w w' := by
  have HX := box hX
  have HF := box hF
  have HG := box hG
  have HT := box hW
  have FX := box ZX.out.fit
  obtain ⟨c1, hc1⟩ : ∃ c, classS X L st = c := ⟨_, rfl⟩
  obtain ⟨c2, hc2⟩ : ∃ c, classS X M st = c := ⟨_, rfl⟩
  have HC1 := box hc1
  have HC2 := box hc2
  cases hv : validX X with
  | false =>
    have HV := box hv
    have HQ : Box (q = false) := box (by rw [← h.out]; unfold sameC; rw [hv]; rfl)
    clear hX hF hG hW hv hc1 hc2
    go_enter Tryz.func14, Tryz.ntmps14
    go_wp2_with fail
    refine (mValid17_is hx FX HX.out HV hnx).mono ?_; rintro e w1 ⟨rfl, hb1⟩
    have B1 := box hb1
    clear hb1
    go_wp2
    go_ret
    exact ⟨by rw [HQ.out]; rfl, B1.out⟩
  | true =>
    have HV := box hv
    have HQ : Box (q = decide (c1 = c2)) := box (by rw [← h.out]; unfold sameC; rw [hv, hc1, hc2]; rfl)
    obtain ⟨z, hz⟩ : ∃ z, (c1.toList == c2.toList) = z := ⟨_, rfl⟩
    have HQ2 : Box (q = z) := box (by rw [HQ.out, ← hz, beq_str])
    clear hX hF hG hW hv hc1 hc2 HQ
    go_enter Tryz.func14, Tryz.ntmps14
    go_wp2_with fail
    refine (mValid17_is hx FX HX.out HV hnx).mono ?_; rintro e w1 ⟨rfl, hb1⟩
    have B1 := box hb1
    clear hb1
    go_wp2_with fail
    refine (mClass_is hx ZX FL (HX.out.below B1.out) (HF.out.below B1.out) (HT.out.below B1.out) HC1 hnx hnl).mono ?_; rintro e w2 ⟨rfl, hb2⟩
    have B2 := box (B1.out.trans (hb2.mono B1.out.size))
    clear hb2
    go_wp2_with fail
    refine (mClass_is hx ZX FM (HX.out.below B2.out) (HG.out.below B2.out) (HT.out.below B2.out) HC2 hnx hnm).mono ?_; rintro e w3 ⟨rfl, hb3⟩
    have B3 := box (B2.out.trans (hb3.mono B2.out.size))
    clear hb3
    go_wp2
    go_ret
    exact ⟨by rw [HQ2.out]; rfl, B3.out⟩
end
section
open Go.RowKit
theorem Qs.news {w : World} {ad : Addr} {M : List QP} (h : Qs w (some ad) M) : ∀ j u, (cellsQ M)[j]? = some u → w.cell? (ad.add j) = some u := by
  intro j u hj
  have hlen := (List.getElem?_eq_some_iff.mp hj).1
  rw [cellsQ_len] at hlen
  have hi : j / 2 < M.length := by omega
  obtain ⟨g, off, e, c0, c1⟩ := h (j / 2) hi
  obtain ⟨q0, q1⟩ := cellsQ_at M (j / 2) hi
  cases e
  rw [add_at]
  rcases Nat.mod_two_eq_zero_or_one j with r | r
  · have ej : j = j / 2 * 2 := by omega
    rw [← ej] at q0 c0
    rw [q0] at hj; cases hj; exact c0
  · have ej : j = j / 2 * 2 + 1 := by omega
    rw [← ej] at q1
    have ec : off + j / 2 * 2 + 1 = off + j := by omega
    rw [ec] at c1
    rw [q1] at hj; cases hj; exact c1
end
section
open Go.RowKit
section
variable {ops : Array Oper} {o : Oper} {a : Act} {K : Act → World → Prop} {Q : Exit → Act → World → Prop} {E : Prop}
theorem step_append_axis (w : World) (hgd : o.guard = none) (s x : Operand)
    (ho : o.op = .call { callee := .builtin .append, args := #[s, x], argTypes := #[22, 22] })
    (B : Nat) (v : Value) (L : List AX) (hs : a.eval s = v) (hown : OwnAx w B v L)
    (g : Nat) (c : Nat) (hx : a.eval x = .slice (some ⟨g, 0, none⟩) 1 c) (n : ByteArray) (u : Value) (V : List ByteArray) (h0 : w.cell? ⟨g, 0, none⟩ = some (.string n)) (h1 : w.cell? ⟨g, 1, none⟩ = some u) (hu : OwnS w B u V) (hl : L.length ≤ 65536) (hB : B ≤ w.heap.size)
    (h : ∀ v' w', OwnAx w' B v' (L ++ [(n, V)]) → Below B w w' → K (a.put o.dst v') w') :
    if Region.wanted o (yielded ops a.tmps) = true then Oper.wp Tryz.prog o a w K Q else E := by
  obtain ⟨i0, hi0, hz0, hz1, hz2⟩ := info_parts info_axis
  obtain ⟨cs, hown, hC⟩ := hown
  have hone : u.oneCell' = true := by obtain ⟨b, c, e, _⟩ := hu.ss; rw [e]; rfl
  refine step_append_lies (P := Tryz.prog) w hgd s x 22 ho B 39 i0 _ 2 40 Tryz.underlying22 hi0 hz0 hz1 hz2 rfl (by decide) v L.length cs hs hown ⟨g, 0, none⟩ 1 c [.string n, u] hx rfl ?_ ?_ (by omega) (by unfold maxLen; omega) (by omega) hB _ rfl ?_
  · intro j y hj
    match j, hj with
    | 0, hj => simp at hj; subst hj; simpa [Addr.add] using h0
    | 1, hj => simp at hj; subst hj; simpa [Addr.add] using h1
  · intro y hy; simp at hy; rcases hy with rfl | rfl
    · rfl
    · exact hone
  · intro g' cap' w' q1 q2 _ _
    refine h _ w' ⟨cs ++ [.string n, u], by rw [List.length_append]; exact q1, ?_⟩ ((Below.refl _ _).grown q2 hB (fun k hk => own_block hown k hk))
    exact (hC.grown hown q2).more (own_grown hown hu q2)
end
end
end Go.Proofs.YtklfpkaemnhdhaaGreatDoor.Asc
