/- Merged texts: VarAxP VarSpec2 VarRef6 VarSpec3 VarSpec4 VarSpec5. -/
import Derived.Test.YtodbmdekgfcjpaaGreatM03
import Derived.Test.YtodbmdekgfcjpaaGreatM06
import Derived.Test.YtodbmdekgfcjpaaGreatM07
import Derived.Test.YtodbmdekgfcjpaaGreatM08
import Derived.Test.YtodbmdekgfcjpaaGreatM09
import Derived.Test.YtodbmdekgfcjpaaGreatM10
import Derived.Test.YtodbmdekgfcjpaaGreatM11
import Derived.Test.YtodbmdekgfcjpaaGreatM12
import Derived.Test.YtodbmdekgfcjpaaGreatM13
set_option linter.unusedVariables false
set_option linter.unusedSimpArgs false
set_option maxRecDepth 100000
namespace Go.Proofs.YtodbmdekgfcjpaaGreat.Asc
section
open Go.RowKit
def lowT (n : ByteArray) : Bool := tokL n.data.toList && decide (lowL n.data.toList = n.data.toList)
theorem lowTok_any (n : ByteArray) (z : Bool) (w : World) (hn : n.size ≤ 65000) (hz : Box (lowT n = z)) :
    Calls Tryz.prog 61 #[.string n] w fun e w' => e = .returned (.bool z) ∧ Below w.heap.size w w' := by
  obtain ⟨q, hq⟩ : ∃ q, tokL n.data.toList = q := ⟨_, rfl⟩
  obtain ⟨x, hx⟩ : ∃ x, bs (lowL n.data.toList) = x := ⟨_, rfl⟩
  obtain ⟨p, hp⟩ : ∃ p, (x.toList == n.toList) = p := ⟨_, rfl⟩
  have HZ : Box (z = (q && p)) := box (by
    rw [← hz.out]
    unfold lowT
    rw [hq, ← hp, ← hx, toList_bs, toList_data]
    congr 1
    by_cases e : lowL n.data.toList = n.data.toList
    · rw [decide_eq_true e, beq_iff_eq.2 e]
    · rw [decide_eq_false e, beq_eq_false_iff_ne.2 e])
  have HQ := box hq
  have HX := box hx
  have HM : Box (n.size ≤ maxLen) := box (by unfold maxLen; omega)
  have hn4 : n.size ≤ 4294967296 := by omega
  clear hq hx hz
  rw [HZ.out]
  clear HZ
  go_enter Tryz.func61, Tryz.ntmps61
  go_wp2_with fail
  refine (aToken_is HM.out HQ).mono ?_; rintro e w1 ⟨rfl, rfl⟩
  cases q with
  | false =>
    go_wp2
    go_ret
    exact ⟨rfl, Below.refl _ _⟩
  | true =>
    go_wp2_with fail
    refine (aLower_is hn4 HX).mono ?_; rintro e w2 ⟨rfl, hb2⟩
    have B2 := box hb2
    clear hb2
    go_wp2
    go_ret
    exact ⟨rfl, B2.out⟩
/-- the forms of the first j values -/
def inV (n : ByteArray) (V : List ByteArray) (j : Nat) : ByteArray → Bool := fun f => (List.range j).any fun i => decide (formF n (atS V i) = f)
theorem inV_more (n : ByteArray) (V : List ByteArray) (j : Nat) (f : ByteArray) : andS (inV n V j) (formF n (atS V j)) f = inV n V (j + 1) f := by
  unfold andS inV
  rw [List.range_succ, List.any_append]
  simp only [List.any_cons, List.any_nil, Bool.or_false]
  congr 1
  exact decide_eq_decide.2 ⟨Eq.symm, Eq.symm⟩
theorem any_not_all {l : List Nat} {p q : Nat → Bool} (h : ∀ i, p i = !q i) : l.all p = !l.any q := by
  induction l with
  | nil => rfl
  | cons a l ih => rw [List.all_cons, List.any_cons, ih, h, Bool.not_or]
theorem inV_at (n : ByteArray) (V : List ByteArray) (j : Nat) : newV n V j j = !inV n V j (formF n (atS V j)) := by
  unfold newV inV
  refine any_not_all fun i => ?_
  rw [form_same]
  congr 1
  exact decide_eq_decide.2 ⟨Eq.symm, Eq.symm⟩
def VaAx (n : ByteArray) (V : List ByteArray) (W : World) (b : Nat) (i : Value) (wr : World) : Prop :=
  ∃ j : Nat, i = .int .i64 j ∧ j ≤ V.length ∧ Box (valsV n V j = true) ∧ Box (SSet wr b j (inV n V j)) ∧ Box (Below W.heap.size W wr)
set_option maxHeartbeats 2000000 in
theorem validAx_any (n : ByteArray) (a : Option Addr) (c : Nat) (V : List ByteArray) (z : Bool) (w : World) (hn : n.size ≤ 65000) (hl : V.length ≤ 65536) (hz : Box (∀ i (hi : i < V.length), V[i].size ≤ 65000)) (hF : Box (Ss w a V)) (hv : Box (validA (n, V) = z)) :
    Calls Tryz.prog 35 #[.agg #[.string n, .slice a V.length c]] w fun e w' => e = .returned (.bool z) ∧ Below w.heap.size w w' := by
  obtain ⟨q, hq⟩ : ∃ q, lowT n = q := ⟨_, rfl⟩
  obtain ⟨p, hp⟩ : ∃ p, (decide (1 ≤ (V.length : Int)) && decide ((V.length : Int) ≤ 16)) = p := ⟨_, rfl⟩
  have HH : Box (headV n V = (q && p)) := box (by
    unfold headV
    rw [← hq, ← hp]
    unfold lowT
    rw [Bool.and_assoc (tokL n.data.toList && decide (lowL n.data.toList = n.data.toList))]
    congr 1
    congr 1
    · exact decide_eq_decide.2 (by omega)
    · exact decide_eq_decide.2 (by omega))
  have HQ := box hq
  have HP := box hp
  have B0 := box (below_new w (.cells #[.string n, .slice a V.length c] 54))
  have hC := C2.new (.string n) (.slice a V.length c) w 54
  clear hq hp
  go_enter Tryz.func35, Tryz.ntmps35
  go_wp2_with fail
  refine (lowTok_any n q _ hn HQ).mono ?_; rintro e w1 ⟨rfl, hb1⟩
  have C1 := box (hC.next hb1)
  have B1 := box (B0.out.trans (hb1.mono B0.out.size))
  clear hC hb1
  obtain ⟨⟨r0, r1⟩, _⟩ := C1.out
  cases q with
  | false =>
    have HZ : Box (z = false) := box (by rw [← hv.out]; unfold validA; rw [show headV (n, V).1 (n, V).2 = false from HH.out]; rfl)
    go_wp2
    go_ret
    exact ⟨by rw [HZ.out]; rfl, B1.out⟩
  | true =>
    go_wp2_with fail
    refine (from1_is HP).mono ?_; rintro e w2 ⟨rfl, rfl⟩
    cases p with
    | false =>
      have HZ : Box (z = false) := box (by rw [← hv.out]; unfold validA; rw [show headV (n, V).1 (n, V).2 = false from HH.out]; rfl)
      go_wp2
      go_ret
      exact ⟨by rw [HZ.out]; rfl, B1.out⟩
    | true =>
      have HZ : Box (valsV n V V.length = z) := box (by rw [← hv.out]; unfold validA; rw [show headV (n, V).1 (n, V).2 = true from HH.out]; rfl)
      go_wp2_with fail
      refine (ruleOf_any n _ hn).mono ?_; rintro e w3 ⟨v, rfl, ⟨T, r, fn, rfl, hFm, hM, hCf⟩, hb3⟩
      have B3 := box (B1.out.trans (hb3.mono B1.out.size))
      have HF := box hFm
      obtain ⟨⟨s0, s1⟩, _⟩ := C1.out.next hb3
      clear hb3 hFm r0 r1
      have hmm := makeMap15 w3
      obtain ⟨b, hb⟩ : ∃ b, w3.heap.size = b := ⟨_, rfl⟩
      have hwb : w.heap.size ≤ b := by rw [← hb]; exact B3.out.size
      have hM3 := below_new w3 (.map #[] 0)
      have S4 : Box (SSet (w3.alloc (.map #[] 0)) b 0 (inV n V 0)) := box (by
        have h := SSet.made w3
        rw [hb] at h
        exact h.same (fun s => rfl))
      have B4 := box (B3.out.trans (hM3.mono B3.out.size))
      have t0 := (hM3.cell (cell_lt s0)).trans s0
      have t1 := (hM3.cell (cell_lt s1)).trans s1
      rw [hb] at hmm
      have HB := box hb
      clear hM3 s0 s1 hb
      go_wp2
      go_loopw [27] (fun i wr => VaAx n V w b i wr) (fun i _ => V.length - (intOf i).toNat)
      case atStart => exact ⟨0, rfl, Nat.zero_le _, box rfl, S4, B4⟩
      case round =>
        obtain ⟨j, rfl, hj, HO, hS, hB⟩ := hrel
        clear t0 t1
        by_cases hlt : j < V.length
        · obtain ⟨g, off, rfl, c0⟩ := (hF.out.below hB.out) j hlt
          have hs1 := hz.out j hlt
          have hat := atS_is hlt
          have hno := inV_at n V j
          have hmo := valsV_more n V j
          obtain ⟨x, hx⟩ : ∃ x, V[j] = x := ⟨_, rfl⟩
          rw [hx] at c0 hs1 hat
          rw [hat] at hno hmo
          obtain ⟨f, hf⟩ : ∃ f, formF n x = f := ⟨_, rfl⟩
          obtain ⟨p, hp⟩ : ∃ p, valueV n x = p := ⟨_, rfl⟩
          obtain ⟨d, hd⟩ : ∃ d, inV n V j f = d := ⟨_, rfl⟩
          rw [hf, hd] at hno
          rw [hp, hno] at hmo
          have HMO := box hmo
          have HFP := box (And.intro hf hp)
          have HD := box hd
          have HSM : Box (f.size ≤ maxLen) := box (by
            have := form_size (n := n) hs1
            rw [hf] at this
            unfold maxLen; omega)
          have HJM : Box (j < maxLen) := box (by unfold maxLen; omega)
          have HIN : Box (∀ g, andS (inV n V j) f g = inV n V (j + 1) g) := box (fun g => by rw [← hf, ← hat]; exact inV_more n V j g)
          have hw1 := hS.out.lt
          clear hno hmo hf hp hd hat hx
          go_wp2_with fail
          refine (form_is HF.out hs1 HFP).mono ?_; rintro e w5 ⟨rfl, hb5⟩
          have S5 := box (hS.out.below hb5 hw1)
          have B5 := box (hB.out.trans (hb5.mono (Nat.le_trans hwb (Nat.le_of_lt hw1))))
          clear hb5 c0
          cases p with
          | false =>
            have HZ2 : Box (z = false) := box (by
              rw [← HZ.out]
              exact vals_no hlt (by
                have := HMO.out
                rw [valsV_more, HO.out] at this
                simpa using this))
            go_wp2
            go_ret
            exact ⟨by rw [HZ2.out]; rfl, B5.out⟩
          | true =>
            go_wp2_with fail
            refine (add_any b j (inV n V j) f d _ HSM.out HJM.out S5 HD).mono ?_; rintro e w6 ⟨rfl, hS6, hb6⟩
            have S6 := box (hS6.same HIN.out)
            have B6 := box (B5.out.trans (hb6.mono hwb))
            clear hS6 hb6
            cases d with
            | true =>
              have HZ2 : Box (z = false) := box (by
                rw [← HZ.out]
                exact vals_no hlt (by
                  have := HMO.out
                  rw [valsV_more, HO.out] at this
                  simpa using this))
              go_wp2
              go_ret
              exact ⟨by rw [HZ2.out]; rfl, B6.out⟩
            | false =>
              have HO2 : Box (valsV n V (j + 1) = true) := box (by rw [HMO.out, HO.out]; rfl)
              go_wp2
              go_roundw
              case rel => exact ⟨j + 1, by go_num, by omega, HO2, S6, B6⟩
              case measure => simp [intOf]; omega
        · obtain rfl : j = V.length := by omega
          have HZ2 : Box (z = true) := box (by rw [← HZ.out]; exact HO.out)
          go_wp2
          go_ret
          exact ⟨by rw [HZ2.out]; rfl, hB.out⟩
/-- the names of the first j axes -/
def inA (L : List AX) (j : Nat) : ByteArray → Bool := fun x => (List.range j).any fun i => decide ((atA L i).1 = x)
theorem inA_more (L : List AX) (j : Nat) (x : ByteArray) : andS (inA L j) (atA L j).1 x = inA L (j + 1) x := by
  unfold andS inA
  rw [List.range_succ, List.any_append]
  simp only [List.any_cons, List.any_nil, Bool.or_false]
  congr 1
  exact decide_eq_decide.2 ⟨Eq.symm, Eq.symm⟩
theorem inA_at (L : List AX) (j : Nat) : newA L j j = !inA L j (atA L j).1 := by
  unfold newA inA
  refine any_not_all fun i => ?_
  by_cases e : (atA L j).1 = (atA L i).1
  · simp [e]
  · rw [decide_eq_true e, decide_eq_false (fun h => e h.symm)]; rfl
def VaLi (L : List AX) (W : World) (i : Value) (wr : World) : Prop :=
  ∃ j : Nat, i = .int .i64 j ∧ j ≤ L.length ∧ Box (axesV L j = true) ∧ Box (SSet wr W.heap.size j (inA L j)) ∧ Box (Below W.heap.size W wr)
set_option maxHeartbeats 2000000 in
theorem mValid_any (a : Option Addr) (cap : Nat) (L : List AX) (w : World) (hl : L.length ≤ 65536) (hz : Box (smallA L)) (hF : Box (Axs w a L)) :
    Calls Tryz.prog 14 #[.slice a L.length cap] w fun e w' => e = .returned (.bool (validX L)) ∧ Below w.heap.size w w' := by
  obtain ⟨z, hv⟩ : ∃ z, validX L = z := ⟨_, rfl⟩
  obtain ⟨p, hp⟩ : ∃ p, (decide (1 ≤ (L.length : Int)) && decide ((L.length : Int) ≤ 4)) = p := ⟨_, rfl⟩
  have HV : Box (z = (p && axesV L L.length)) := box (by
    rw [← hv, ← hp]
    unfold validX
    congr 1
    congr 1
    · exact decide_eq_decide.2 (by omega)
    · exact decide_eq_decide.2 (by omega))
  have HP := box hp
  rw [hv]
  clear hp hv
  have hmm := makeMap15 w
  have S1 : Box (SSet (w.alloc (.map #[] 0)) w.heap.size 0 (inA L 0)) := box ((SSet.made w).same (fun s => rfl))
  have B1 := box (below_new w (.map #[] 0))
  go_enter Tryz.func14, Tryz.ntmps14
  go_wp2_with fail
  refine (from1_is HP).mono ?_; rintro e w1 ⟨rfl, rfl⟩
  cases p with
  | false =>
    go_wp2
    go_ret
    exact ⟨by rw [HV.out]; rfl, Below.refl _ _⟩
  | true =>
    have HZ : Box (axesV L L.length = z) := box (by rw [HV.out]; rfl)
    clear HV
    go_wp2
    go_loopw [13] (fun i wr => VaLi L w i wr) (fun i _ => L.length - (intOf i).toNat)
    case atStart => exact ⟨0, rfl, Nat.zero_le _, box rfl, S1, B1⟩
    case round =>
      obtain ⟨j, rfl, hj, HO, hS, hB⟩ := hrel
      by_cases hlt : j < L.length
      · obtain ⟨g, off, u, rfl, c0, c1, b, cc, rfl, hss, _⟩ := (hF.out.below hB.out) j hlt
        obtain ⟨z1, z2, z3⟩ := hz.out j hlt
        have hat := atA_is hlt
        have hno := inA_at L j
        have hmo := axesV_more L j
        have hin := inA_more L j
        obtain ⟨⟨nm, V⟩, hx⟩ : ∃ x, L[j] = x := ⟨_, rfl⟩
        rw [hx] at hat
        have e1 : L[j].1 = nm := by rw [hx]
        have e2 : L[j].2 = V := by rw [hx]
        rw [e1] at c0 z1
        have z4 : ∀ i (hi : i < V.length), V[i].size ≤ 65000 := fun i hi => by subst e2; exact z3 i hi
        clear z3
        rw [e2] at c1 z2 hss
        rw [hat] at hno hmo hin
        simp only at hno hin
        obtain ⟨p, hp⟩ : ∃ p, validA (nm, V) = p := ⟨_, rfl⟩
        obtain ⟨d, hd⟩ : ∃ d, inA L j nm = d := ⟨_, rfl⟩
        rw [hd] at hno
        rw [hp, hno] at hmo
        have HMO := box hmo
        have HPV := box hp
        have HD := box hd
        have HIN := box hin
        have HSM : Box (nm.size ≤ maxLen) := box (by unfold maxLen; omega)
        have HJM : Box (j < maxLen) := box (by unfold maxLen; omega)
        have HZ4 := box z4
        have hw1 := hS.out.lt
        have BN := box (below_new wr (.cells #[.string nm, .slice b V.length cc] 54))
        have hC := C2.new (.string nm) (.slice b V.length cc) wr 54
        have HSS := box (hss.below BN.out)
        clear hno hmo hp hd hin hat hx e1 e2 z4 hss
        go_wp2_with fail
        refine (validAx_any nm b cc V p _ z1 z2 HZ4 HSS HPV).mono ?_; rintro e w5 ⟨rfl, hb5⟩
        have hb6 := BN.out.trans (hb5.mono BN.out.size)
        have S5 := box (hS.out.below hb6 hw1)
        have B5 := box (hB.out.trans (hb6.mono (Nat.le_of_lt hw1)))
        obtain ⟨⟨r0, r1⟩, _⟩ := hC.next hb5
        clear hb5 hb6 c0 c1 hC
        cases p with
        | false =>
          have HZ2 : Box (z = false) := box (by
            rw [← HZ.out]
            exact axes_no hlt (by
              have := HMO.out
              rw [axesV_more, HO.out] at this
              simpa using this))
          go_wp2
          go_ret
          exact ⟨by rw [HZ2.out]; rfl, B5.out⟩
        | true =>
          go_wp2_with fail
          refine (add_any w.heap.size j (inA L j) nm d _ HSM.out HJM.out S5 HD).mono ?_; rintro e w6 ⟨rfl, hS6, hb6⟩
          have S6 := box (hS6.same HIN.out)
          have B6 := box (B5.out.trans hb6)
          clear hS6 hb6 r0 r1
          cases d with
          | true =>
            have HZ2 : Box (z = false) := box (by
              rw [← HZ.out]
              exact axes_no hlt (by
                have := HMO.out
                rw [axesV_more, HO.out] at this
                simpa using this))
            go_wp2
            go_ret
            exact ⟨by rw [HZ2.out]; rfl, B6.out⟩
          | false =>
            have HO2 : Box (axesV L (j + 1) = true) := box (by rw [HMO.out, HO.out]; rfl)
            go_wp2
            go_roundw
            case rel => exact ⟨j + 1, by go_num, by omega, HO2, S6, B6⟩
            case measure => simp [intOf]; omega
      · obtain rfl : j = L.length := by omega
        have HZ2 : Box (z = true) := box (by rw [← HZ.out]; exact HO.out)
        go_wp2
        go_ret
        exact ⟨by rw [HZ2.out]; rfl, hB.out⟩
theorem mValid_is {a : Option Addr} {cap : Nat} {L : List AX} {q : Bool} {w : World} (hl : L.length ≤ 65536) (hz : Box (smallA L)) (hF : Box (Axs w a L)) (h : Box (validX L = q)) :
    Calls Tryz.prog 14 #[.slice a L.length cap] w fun e w' => e = .returned (.bool q) ∧ Below w.heap.size w w' :=
  (mValid_any a cap L w hl hz hF).mono fun e w' ⟨h1, h2⟩ => ⟨by rw [h1, h.out], h2⟩
end
section
def plainC (c : UInt8) : Bool := c != 32 && c != 9 && c != 40 && c != 41 && c != 44 && c != 34
/-- how many bytes a quoted string takes behind its first quote, its last quote among them -/
def qE : List UInt8 → Option Nat
  | [] => none
  | [c] => if c = 34 then some 1 else none
  | c :: d :: r => if c = 34 then some 1 else if c = 92 then (qE r).map (· + 2) else (qE (d :: r)).map (· + 1)
theorem qE_quo (r : List UInt8) : qE (34 :: r) = some 1 := by cases r <;> rfl
theorem qE_esc (d : UInt8) (r : List UInt8) : qE (92 :: d :: r) = (qE r).map (· + 2) := rfl
theorem qE_any {c : UInt8} (r : List UInt8) (h1 : c ≠ 34) (h2 : c ≠ 92) : qE (c :: r) = (qE r).map (· + 1) := by
  cases r with
  | nil => show (if c = 34 then _ else _) = _; rw [if_neg h1]; rfl
  | cons d r => show (if c = 34 then _ else if c = 92 then _ else _) = _; rw [if_neg h1, if_neg h2]
/-- a value and how many bytes it takes -/
def wordE : List UInt8 → Option (List UInt8 × Nat)
  | [] => none
  | c :: r => if c = 34 then (qE r).bind fun n => (unqL (34 :: r.take n)).map fun u => (u, n + 1)
    else if plainC c = false then none else some ((c :: r).takeWhile plainC, ((c :: r).takeWhile plainC).length)
theorem wordE_cons (c : UInt8) (r : List UInt8) : wordE (c :: r) = if c = 34 then (qE r).bind fun n => (unqL (34 :: r.take n)).map fun u => (u, n + 1)
    else if plainC c = false then none else some ((c :: r).takeWhile plainC, ((c :: r).takeWhile plainC).length) := rfl
theorem wordE_pos {l v : List UInt8} {n : Nat} (h : wordE l = some (v, n)) : 1 ≤ n := by
  cases l with
  | nil => cases h
  | cons c r =>
    rw [wordE_cons] at h
    by_cases hc : c = 34
    · rw [if_pos hc] at h
      obtain ⟨m, hm, h⟩ := Option.bind_eq_some_iff.1 h
      obtain ⟨u, hu, h⟩ := Option.map_eq_some_iff.1 h
      simp only [Prod.mk.injEq] at h
      omega
    · rw [if_neg hc] at h
      by_cases hp : plainC c = false
      · rw [if_pos hp] at h; cases h
      · rw [if_neg hp] at h
        have hp2 : plainC c = true := by simpa using hp
        simp only [Option.some.injEq, Prod.mk.injEq] at h
        rw [List.takeWhile_cons_of_pos hp2] at h
        have := h.2
        rw [List.length_cons] at this; omega
def valsF : Nat → List UInt8 → List (List UInt8) → Option (List (List UInt8))
  | _, [], acc => some acc
  | 0, _ :: _, _ => none
  | f + 1, c :: r, acc => if c = 32 then valsF f r acc else match wordE (c :: r) with
    | none => none
    | some (v, n) => match (c :: r).drop n with
      | [] => some (acc ++ [v])
      | d :: r2 => if d = 32 then valsF f (d :: r2) (acc ++ [v]) else none
theorem valsF_nil (f : Nat) (acc : List (List UInt8)) : valsF f [] acc = some acc := by cases f <;> rfl
theorem valsF_cons (f : Nat) (c : UInt8) (r : List UInt8) (acc : List (List UInt8)) : valsF (f + 1) (c :: r) acc = if c = 32 then valsF f r acc else match wordE (c :: r) with
    | none => none
    | some (v, n) => match (c :: r).drop n with
      | [] => some (acc ++ [v])
      | d :: r2 => if d = 32 then valsF f (d :: r2) (acc ++ [v]) else none := rfl
theorem valsF_fuel : ∀ (f g : Nat) (l : List UInt8) (acc : List (List UInt8)), l.length ≤ f → l.length ≤ g → valsF f l acc = valsF g l acc
  | f, g, [], acc, _, _ => by rw [valsF_nil, valsF_nil]
  | 0, g, c :: r, acc, h, _ => by simp at h
  | f + 1, 0, c :: r, acc, _, h => by simp at h
  | f + 1, g + 1, c :: r, acc, hf, hg => by
    simp only [List.length_cons] at hf hg
    rw [valsF_cons, valsF_cons]
    split
    · exact valsF_fuel f g r acc (by omega) (by omega)
    · split
      · rfl
      · rename_i v n hw
        have hn := wordE_pos hw
        split
        · rfl
        · rename_i d r2 hd
          have hl : (d :: r2).length ≤ r.length := by rw [← hd, List.length_drop, List.length_cons]; omega
          split
          · exact valsF_fuel f g (d :: r2) _ (by omega) (by omega)
          · rfl
def valsL (l : List UInt8) (acc : List (List UInt8)) : Option (List (List UInt8)) := valsF l.length l acc
theorem valsL_nil (acc : List (List UInt8)) : valsL [] acc = some acc := rfl
theorem valsL_sp (r : List UInt8) (acc : List (List UInt8)) : valsL (32 :: r) acc = valsL r acc := by
  unfold valsL; rw [List.length_cons, valsF_cons, if_pos rfl]
theorem valsL_none {c : UInt8} {r : List UInt8} {acc : List (List UInt8)} (hc : c ≠ 32) (h : wordE (c :: r) = none) : valsL (c :: r) acc = none := by
  unfold valsL; rw [List.length_cons, valsF_cons, if_neg hc, h]
theorem valsL_end {c : UInt8} {r v : List UInt8} {n : Nat} {acc : List (List UInt8)} (hc : c ≠ 32) (h : wordE (c :: r) = some (v, n)) (hr : (c :: r).drop n = []) : valsL (c :: r) acc = valsL ((c :: r).drop n) (acc ++ [v]) := by
  unfold valsL; rw [List.length_cons, valsF_cons, if_neg hc, h]
  simp only
  rw [hr]; rfl
theorem valsL_bad {c d : UInt8} {r v r2 : List UInt8} {n : Nat} {acc : List (List UInt8)} (hc : c ≠ 32) (h : wordE (c :: r) = some (v, n)) (hr : (c :: r).drop n = d :: r2) (hd : d ≠ 32) : valsL (c :: r) acc = none := by
  unfold valsL; rw [List.length_cons, valsF_cons, if_neg hc, h]
  simp only [hr]
  rw [if_neg hd]
theorem valsL_word {c : UInt8} {r v r2 : List UInt8} {n : Nat} {acc : List (List UInt8)} (hc : c ≠ 32) (h : wordE (c :: r) = some (v, n)) (hr : (c :: r).drop n = 32 :: r2) : valsL (c :: r) acc = valsL ((c :: r).drop n) (acc ++ [v]) := by
  have hn := wordE_pos h
  unfold valsL; rw [List.length_cons, valsF_cons, if_neg hc, h]
  simp only [hr, if_true]
  refine valsF_fuel _ _ _ _ ?_ (Nat.le_refl _)
  have := congrArg List.length hr
  rw [List.length_drop, List.length_cons, List.length_cons] at this
  rw [List.length_cons]; omega
def valuesL (s : List UInt8) : Option (List (List UInt8)) := if s.length < 2 ∨ s.head? ≠ some 40 ∨ s.getLast? ≠ some 41 then none else valsL ((s.drop 1).dropLast) []
/-- the steps, by places: within a quoted string -/
theorem q_any {l : List UInt8} {i : Nat} (hi : i < l.length) (h1 : l[i] ≠ 34) (h2 : l[i] ≠ 92) : qE (l.drop i) = (qE (l.drop (i + 1))).map (· + 1) := by
  rw [List.drop_eq_getElem_cons hi]; exact qE_any _ h1 h2
theorem q_esc {l : List UInt8} {i : Nat} (hi : i < l.length) (h : l[i] = 92) : qE (l.drop i) = (qE (l.drop (i + 2))).map (· + 2) := by
  rw [List.drop_eq_getElem_cons hi, h]
  by_cases h2 : i + 1 < l.length
  · rw [List.drop_eq_getElem_cons h2, qE_esc]
  · rw [List.drop_of_length_le (i := i + 1) (by omega), List.drop_of_length_le (i := i + 2) (by omega)]; rfl
theorem q_hit {l : List UInt8} {i : Nat} (hi : i < l.length) (h : l[i] = 34) : qE (l.drop i) = some 1 := by
  rw [List.drop_eq_getElem_cons hi, h]; exact qE_quo _
theorem q_end {l : List UInt8} {i : Nat} (hi : l.length ≤ i) : qE (l.drop i) = none := by rw [List.drop_of_length_le hi]; rfl
def QAt (l : List UInt8) (f i : Nat) : Prop := qE (l.drop f) = (qE (l.drop i)).map (· + (i - f))
theorem QAt.start (l : List UInt8) (f : Nat) : QAt l f f := by unfold QAt; simp
theorem QAt.any {l : List UInt8} {f i : Nat} (h : QAt l f i) (hf : f ≤ i) (hi : i < l.length) (h1 : l[i] ≠ 34) (h2 : l[i] ≠ 92) : QAt l f (i + 1) := by
  unfold QAt at h ⊢
  rw [h, q_any hi h1 h2, Option.map_map]
  congr 1
  funext x
  show x + 1 + (i - f) = x + (i + 1 - f)
  omega
theorem QAt.esc {l : List UInt8} {f i : Nat} (h : QAt l f i) (hf : f ≤ i) (hi : i < l.length) (h1 : l[i] = 92) : QAt l f (i + 2) := by
  unfold QAt at h ⊢
  rw [h, q_esc hi h1, Option.map_map]
  congr 1
  funext x
  show x + 2 + (i - f) = x + (i + 2 - f)
  omega
theorem QAt.hit {l : List UInt8} {f i : Nat} (h : QAt l f i) (hf : f ≤ i) (hi : i < l.length) (h1 : l[i] = 34) : qE (l.drop f) = some (i + 1 - f) := by
  unfold QAt at h
  rw [h, q_hit hi h1]
  show some (1 + (i - f)) = _
  congr 1; omega
theorem QAt.fin {l : List UInt8} {f i : Nat} (h : QAt l f i) (hi : l.length ≤ i) : qE (l.drop f) = none := by
  unfold QAt at h
  rw [h, q_end hi]; rfl
/-- .. in a run of plain bytes -/
def PAt (l : List UInt8) (f i : Nat) : Prop := (l.drop f).takeWhile plainC = (l.drop f).take (i - f) ++ (l.drop i).takeWhile plainC
theorem PAt.start (l : List UInt8) (f : Nat) : PAt l f f := by unfold PAt; simp
theorem PAt.step {l : List UInt8} {f i : Nat} (h : PAt l f i) (hf : f ≤ i) (hi : i < l.length) (hp : plainC l[i] = true) : PAt l f (i + 1) := by
  unfold PAt at h ⊢
  rw [h, List.drop_eq_getElem_cons hi, List.takeWhile_cons_of_pos hp]
  have e : (l.drop f).take (i + 1 - f) = (l.drop f).take (i - f) ++ [l[i]] := by
    have hlt : i - f < (l.drop f).length := by rw [List.length_drop]; omega
    rw [show i + 1 - f = i - f + 1 from by omega, List.take_succ_eq_append_getElem hlt]
    congr 2
    rw [List.getElem_drop]
    congr 1; omega
  rw [e, List.append_assoc]; rfl
theorem PAt.stop {l : List UInt8} {f i : Nat} (h : PAt l f i) (hi : ∀ (hi : i < l.length), plainC l[i] = false) : (l.drop f).takeWhile plainC = (l.drop f).take (i - f) := by
  unfold PAt at h
  rw [h]
  have : (l.drop i).takeWhile plainC = [] := by
    by_cases hlt : i < l.length
    · rw [List.drop_eq_getElem_cons hlt, List.takeWhile_cons_of_neg (by rw [hi hlt]; simp)]
    · rw [List.drop_of_length_le (by omega)]; rfl
  rw [this, List.append_nil]
theorem word_quo {l u : List UInt8} {f n : Nat} (hf : f < l.length) (h : l[f] = 34) (hq : qE (l.drop (f + 1)) = some n) (hu : unqL ((l.drop f).take (n + 1)) = some u) : wordE (l.drop f) = some (u, n + 1) := by
  rw [List.drop_eq_getElem_cons hf, h] at hu ⊢
  rw [List.take_succ_cons] at hu
  rw [wordE_cons, if_pos rfl, hq]
  simp [hu]
theorem word_quo0 {l : List UInt8} {f n : Nat} (hf : f < l.length) (h : l[f] = 34) (hq : qE (l.drop (f + 1)) = some n) (hu : unqL ((l.drop f).take (n + 1)) = none) : wordE (l.drop f) = none := by
  rw [List.drop_eq_getElem_cons hf, h] at hu ⊢
  rw [List.take_succ_cons] at hu
  rw [wordE_cons, if_pos rfl, hq]
  simp [hu]
theorem word_quo1 {l : List UInt8} {f : Nat} (hf : f < l.length) (h : l[f] = 34) (hq : qE (l.drop (f + 1)) = none) : wordE (l.drop f) = none := by
  rw [List.drop_eq_getElem_cons hf, h]
  rw [wordE_cons, if_pos rfl, hq]; rfl
theorem word_no {l : List UInt8} {f : Nat} (hf : f < l.length) (h : l[f] ≠ 34) (hp : plainC l[f] = false) : wordE (l.drop f) = none := by
  rw [List.drop_eq_getElem_cons hf]
  rw [wordE_cons, if_neg h, if_pos hp]
theorem word_bare {l : List UInt8} {f i : Nat} (hf : f < l.length) (h : l[f] ≠ 34) (hp : plainC l[f] = true) (hfi : f ≤ i) (hil : i ≤ l.length) (ht : (l.drop f).takeWhile plainC = (l.drop f).take (i - f)) : wordE (l.drop f) = some ((l.drop f).take (i - f), i - f) := by
  have e : l.drop f = l[f] :: l.drop (f + 1) := List.drop_eq_getElem_cons hf
  rw [← ht]
  have hl : ((l.drop f).takeWhile plainC).length = i - f := by rw [ht, List.length_take, List.length_drop]; omega
  rw [e] at hl ⊢
  rw [wordE_cons, if_neg h, if_neg (by rw [hp]; simp), hl]
theorem vals_at_none {l : List UInt8} {f : Nat} {acc : List (List UInt8)} (hf : f < l.length) (hc : l[f] ≠ 32) (h : wordE (l.drop f) = none) : valsL (l.drop f) acc = none := by
  rw [List.drop_eq_getElem_cons hf] at h ⊢; exact valsL_none hc h
theorem vals_at_sp {l : List UInt8} {f : Nat} {acc : List (List UInt8)} (hf : f < l.length) (hc : l[f] = 32) : valsL (l.drop f) acc = valsL (l.drop (f + 1)) acc := by
  rw [List.drop_eq_getElem_cons hf, hc]; exact valsL_sp _ _
theorem vals_at_bad {l v : List UInt8} {f i : Nat} {acc : List (List UInt8)} (hf : f < l.length) (hc : l[f] ≠ 32) (hfi : f ≤ i) (h : wordE (l.drop f) = some (v, i - f)) (hi : i < l.length) (hd : l[i] ≠ 32) : valsL (l.drop f) acc = none := by
  have e : (l.drop f).drop (i - f) = l[i] :: l.drop (i + 1) := by rw [List.drop_drop, show f + (i - f) = i from by omega, List.drop_eq_getElem_cons hi]
  rw [List.drop_eq_getElem_cons hf] at h e ⊢
  exact valsL_bad hc h e hd
theorem vals_at_word {l v : List UInt8} {f i : Nat} {acc : List (List UInt8)} (hf : f < l.length) (hc : l[f] ≠ 32) (hfi : f ≤ i) (h : wordE (l.drop f) = some (v, i - f)) (hi : l.length ≤ i ∨ ∃ hi : i < l.length, l[i] = 32) : valsL (l.drop f) acc = valsL (l.drop i) (acc ++ [v]) := by
  have e : (l.drop f).drop (i - f) = l.drop i := by rw [List.drop_drop, show f + (i - f) = i from by omega]
  rw [← e]
  rcases hi with hi | ⟨hi, hd⟩
  · have e2 : (l.drop f).drop (i - f) = [] := by rw [e, List.drop_of_length_le hi]
    rw [List.drop_eq_getElem_cons hf] at h e2 ⊢
    exact valsL_end hc h e2
  · have e2 : (l.drop f).drop (i - f) = 32 :: l.drop (i + 1) := by rw [e, List.drop_eq_getElem_cons hi, hd]
    rw [List.drop_eq_getElem_cons hf] at h e2 ⊢
    exact valsL_word hc h e2
end
section
open Go.RowKit
theorem byte_neq {c d : UInt8} : ((c.toNat : Int) != (d.toNat : Int)) = (c != d) := by
  by_cases h : c = d
  · subst h; simp
  · rw [bne_iff_ne.2 h, bne_iff_ne]
    intro e
    exact h (UInt8.toNat_inj.mp (by omega))
theorem rPlain_any (c : UInt8) (w : World) :
    Calls Tryz.prog 73 #[.int .u8 (c.toNat : Int)] w fun e w' => e = .returned (.bool (plainC c)) ∧ w = w' := by
  have e32 : (c != 32) = ((c.toNat : Int) != 32) := (byte_neq (c := c) (d := 32)).symm
  have e9 : (c != 9) = ((c.toNat : Int) != 9) := (byte_neq (c := c) (d := 9)).symm
  have e40 : (c != 40) = ((c.toNat : Int) != 40) := (byte_neq (c := c) (d := 40)).symm
  have e41 : (c != 41) = ((c.toNat : Int) != 41) := (byte_neq (c := c) (d := 41)).symm
  have e44 : (c != 44) = ((c.toNat : Int) != 44) := (byte_neq (c := c) (d := 44)).symm
  have e34 : (c != 34) = ((c.toNat : Int) != 34) := (byte_neq (c := c) (d := 34)).symm
  obtain ⟨q, hq⟩ : ∃ q, plainC c = q := ⟨_, rfl⟩
  have HQ := box hq
  unfold plainC at hq
  rw [e32, e9, e40, e41, e44, e34] at hq
  rw [HQ.out]
  clear e32 e9 e40 e41 e44 e34
  rcases t32 : ((c.toNat : Int) != 32) with _ | _
  · obtain rfl : q = false := by rw [← hq, t32]; simp
    clear hq
    go_enter Tryz.func73, Tryz.ntmps73
    go_wp2
    go_ret
    exact ⟨rfl, rfl⟩
  · skip
    rcases t9 : ((c.toNat : Int) != 9) with _ | _
    · obtain rfl : q = false := by rw [← hq, t32, t9]; simp
      clear hq
      go_enter Tryz.func73, Tryz.ntmps73
      go_wp2
      go_ret
      exact ⟨rfl, rfl⟩
    · skip
      rcases t40 : ((c.toNat : Int) != 40) with _ | _
      · obtain rfl : q = false := by rw [← hq, t32, t9, t40]; simp
        clear hq
        go_enter Tryz.func73, Tryz.ntmps73
        go_wp2
        go_ret
        exact ⟨rfl, rfl⟩
      · skip
        rcases t41 : ((c.toNat : Int) != 41) with _ | _
        · obtain rfl : q = false := by rw [← hq, t32, t9, t40, t41]; simp
          clear hq
          go_enter Tryz.func73, Tryz.ntmps73
          go_wp2
          go_ret
          exact ⟨rfl, rfl⟩
        · skip
          rcases t44 : ((c.toNat : Int) != 44) with _ | _
          · obtain rfl : q = false := by rw [← hq, t32, t9, t40, t41, t44]; simp
            clear hq
            go_enter Tryz.func73, Tryz.ntmps73
            go_wp2
            go_ret
            exact ⟨rfl, rfl⟩
          · skip
            rcases t34 : ((c.toNat : Int) != 34) with _ | _
            · obtain rfl : q = false := by rw [← hq, t32, t9, t40, t41, t44, t34]; simp
              clear hq
              go_enter Tryz.func73, Tryz.ntmps73
              go_wp2
              go_ret
              exact ⟨rfl, rfl⟩
            · obtain rfl : q = true := by rw [← hq, t32, t9, t40, t41, t44, t34]; rfl
              clear hq
              go_enter Tryz.func73, Tryz.ntmps73
              go_wp2
              go_ret
              exact ⟨rfl, rfl⟩
theorem rPlain_is {c : UInt8} {b : Bool} {w : World} (h : Box (plainC c = b)) :
    Calls Tryz.prog 73 #[.int .u8 (c.toNat : Int)] w fun e w' => e = .returned (.bool b) ∧ w = w' :=
  (rPlain_any c w).mono fun e w' ⟨h1, h2⟩ => ⟨by rw [h1, h.out], h2⟩
theorem vals_head {l : List UInt8} (h : 0 < l.length) (h1 : l[0] ≠ 40) : valuesL l = none := by
  unfold valuesL
  rw [if_pos]
  refine .inr (.inl ?_)
  cases l with
  | nil => simp at h
  | cons c r => simpa using h1
theorem vals_last {l : List UInt8} (h : 0 < l.length) (h1 : l[l.length - 1] ≠ 41) : valuesL l = none := by
  unfold valuesL
  rw [if_pos]
  refine .inr (.inr ?_)
  rw [List.getLast?_eq_getElem?, List.getElem?_eq_getElem (by omega)]
  simpa using h1
theorem vals_short {l : List UInt8} (h : l.length < 2) : valuesL l = none := by
  unfold valuesL
  rw [if_pos (.inl h)]
theorem vals_mid {l : List UInt8} (h : 2 ≤ l.length) (h1 : l[0] = 40) (h2 : l[l.length - 1] = 41) : valuesL l = valsL ((l.drop 1).dropLast) [] := by
  unfold valuesL
  rw [if_neg]
  rintro (q | q | q)
  · omega
  · cases l with
    | nil => simp at h
    | cons c r => simp at h1 q; exact q h1
  · rw [List.getLast?_eq_getElem?, List.getElem?_eq_getElem (by omega)] at q
    simp [h2] at q
def valW (w w' : World) (T : Option (List (List UInt8))) (e : Ending) : Prop := ∃ v, e = .returned (.tuple #[v, .bool T.isSome]) ∧ OwnS w' w.heap.size v ((T.getD []).map bs) ∧ Below w.heap.size w w' ∧ (T = none → v = .slice none 0 0)
theorem valW_none {w w' : World} {T : Option (List (List UInt8))} (h : Box (T = none)) (hb : Below w.heap.size w w') : valW w w' T (.returned (.tuple #[.slice none 0 0, .bool false])) := by
  rw [h.out]; exact ⟨_, rfl, OwnS.nil _ _, hb, fun _ => rfl⟩
def VaRel (T : Option (List (List UInt8))) (m : ByteArray) (W : World) (v i : Value) (wr : World) : Prop :=
  ∃ (acc : List (List UInt8)) (k : Nat), i = .int .i64 k ∧ k ≤ m.size ∧ acc.length ≤ k ∧ T = valsL (m.data.toList.drop k) acc ∧ OwnS wr W.heap.size v (acc.map bs) ∧ Below W.heap.size W wr
set_option maxHeartbeats 8000000 in
theorem rValues_any (s : ByteArray) (w : World) (hs : s.size ≤ 65000) :
    Calls Tryz.prog 48 #[.string s] w fun e w' => valW w w' (valuesL s.data.toList) e := by
  have hsl : s.data.toList.length = s.size := by simp
  obtain ⟨T, hT⟩ : ∃ T, valuesL s.data.toList = T := ⟨_, rfl⟩
  rw [hT]
  by_cases h2 : s.size < 2
  · have i2 : (s.size : Int) < 2 := by omega
    have HN : Box (T = none) := box (by rw [← hT]; exact vals_short (by omega))
    clear hT
    go_enter Tryz.func48, Tryz.ntmps48
    go_wp2
    go_ret2
    exact valW_none HN (Below.refl _ _)
  · have i2 : ¬ (s.size : Int) < 2 := by omega
    have h0 : 0 < s.size := by omega
    have hs1 : s.size - 1 < s.size := by omega
    have e0 : s.data.toList[0]'(by omega) = s[0] := rfl
    have e1 : s.data.toList[s.data.toList.length - 1]'(by omega) = s[s.size - 1] := by simp only [hsl]; rfl
    have iw : IntKind.i64.wrap ((s.size : Int) - 1) = ((s.size - 1 : Nat) : Int) := by rw [IntKind.wrap_i64]; omega
    rcases t0 : ((s[0].toNat : Int) != 40) with _ | _
    · rcases t1 : ((s[s.size - 1].toNat : Int) != 41) with _ | _
      · have g0 : s[0] = 40 := by
          have := byte_neq (c := s[0]) (d := 40)
          rw [show ((40 : UInt8).toNat : Int) = 40 from rfl, t0] at this; simpa using this.symm
        have g1 : s[s.size - 1] = 41 := by
          have := byte_neq (c := s[s.size - 1]) (d := 41)
          rw [show ((41 : UInt8).toNat : Int) = 41 from rfl, t1] at this; simpa using this.symm
        have hTm : T = valsL ((s.data.toList.drop 1).dropLast) [] := by rw [← hT]; exact vals_mid (by omega) (by rw [e0, g0]) (by rw [e1, g1])
        obtain ⟨m, hm⟩ : ∃ m, s.extract 1 (s.size - 1) = m := ⟨_, rfl⟩
        have hmd : m.data.toList = (s.data.toList.drop 1).dropLast := by
          rw [← hm, ext_bs, bs_toList, List.dropLast_eq_take, List.length_drop, hsl]
          rw [List.drop_take]
        rw [← hmd] at hTm
        have hml : m.data.toList.length = m.size := by simp
        have hmz : m.size ≤ 65000 := by rw [← hml, hmd, List.length_dropLast, List.length_drop]; omega
        have HTM := box hTm
        clear hT e0 e1 g0 g1 hTm hmd hsl
        go_enter Tryz.func48, Tryz.ntmps48
        go_wp2
        go_loopw [4, 5] (fun v i wr => VaRel T m w v i wr) (fun _ i _ => m.size - (intOf i).toNat)
        case atStart => exact ⟨[], 0, rfl, Nat.zero_le _, Nat.le_refl _, by rw [List.drop_zero]; exact HTM.out, OwnS.nil _ _, Below.refl _ _⟩
        case round =>
          obtain ⟨acc, k, rfl, hk, hak, hTk, hO, hbel⟩ := hrel
          have O0 := box hO
          have BL := box hbel
          have HT := box hTk
          have hBw := hbel.size
          obtain ⟨av, cv, rfl, _, _⟩ := hO.ss
          rw [List.length_map] at O0 ⊢
          clear hO hbel hTk
          by_cases hlt : k < m.size
          · have hki : (k : Int) < (m.size : Int) := by omega
            have hkd : m.data.toList[k]'(by rw [hml]; exact hlt) = m[k] := rfl
            rcases hsp : ((m[k].toNat : Int) == 32) with _ | _
            · have HC32 : Box (m.data.toList[k]'(by rw [hml]; exact hlt) ≠ 32) := box (by rw [hkd]; exact byte_no (d := 32) hsp)
              rcases hqu : ((m[k].toNat : Int) == 34) with _ | _
              · have HC34 : Box (m.data.toList[k]'(by rw [hml]; exact hlt) ≠ 34) := box (by rw [hkd]; exact byte_no (d := 34) hqu)
                clear hkd
                go_wp2
                go_loop [5] (fun i => ∃ p : Nat, i = .int .i64 p ∧ k ≤ p ∧ p ≤ m.size ∧ Box (PAt m.data.toList k p)) (fun i => m.size - (intOf i).toNat)
                case atStart => exact ⟨k, rfl, Nat.le_refl _, hk, box (PAt.start _ _)⟩
                case round =>
                  obtain ⟨p, rfl, hkp, hp, HP⟩ := hrel
                  have hstop : (∀ (hi : p < m.data.toList.length), plainC m.data.toList[p] = false) → Box (p = k ∧ T = none ∨ k < p ∧ wordE (m.data.toList.drop k) = some ((m.data.toList.drop k).take (p - k), p - k)) := fun hst => box (by
                    have ht := HP.out.stop hst
                    by_cases e : p = k
                    · left
                      subst e
                      refine ⟨rfl, ?_⟩
                      rw [HT.out]
                      refine vals_at_none (by rw [hml]; exact hlt) HC32.out (word_no (by rw [hml]; exact hlt) HC34.out (hst _))
                    · right
                      refine ⟨by omega, word_bare (by rw [hml]; exact hlt) HC34.out ?_ hkp (by rw [hml]; exact hp) ht⟩
                      rcases hpk : plainC (m.data.toList[k]'(by rw [hml]; exact hlt)) with _ | _
                      · exfalso
                        rw [List.drop_eq_getElem_cons (by rw [hml]; exact hlt), List.takeWhile_cons_of_neg (by rw [hpk]; simp), show p - k = (p - k - 1) + 1 from by omega, List.take_succ_cons] at ht
                        cases ht
                      · rfl)
                  by_cases hpl : p < m.size
                  · have hpi : (p : Int) < (m.size : Int) := by omega
                    have hpd : m.data.toList[p]'(by rw [hml]; exact hpl) = m[p] := rfl
                    rcases hpc : plainC m[p] with _ | _
                    · have HPC := box hpc
                      have HS := hstop (fun hi => hpc)
                      clear hpc hpd hstop
                      go_wp2_with fail
                      refine (rPlain_is HPC).mono ?_; rintro e w1 ⟨rfl, rfl⟩
                      rcases HS.out with ⟨hpk, hTn⟩ | ⟨hpk, hwd⟩
                      · have HN := box hTn
                        clear hTn HS
                        subst hpk
                        have hkk : ((p : Int) == (p : Int)) = true := by simp
                        go_wp2
                        go_ret2
                        exact valW_none HN BL.out
                      · have hkk : ((p : Int) == (k : Int)) = false := by rw [beq_eq_false_iff_ne]; omega
                        have HW := box hwd
                        clear hwd HS
                        have ik : (0 : Int) ≤ (k : Int) := by omega
                        have ik2 : (k : Int) ≤ (p : Int) := by omega
                        have ip : (p : Int) ≤ (m.size : Int) := by omega
                        obtain ⟨ub, hub⟩ : ∃ ub, m.extract k p = ub := ⟨_, rfl⟩
                        have hud : bs ((m.data.toList.drop k).take (p - k)) = ub := by rw [← hub, ext_bs, List.drop_take]
                        obtain ⟨u, hu⟩ : ∃ u, (m.data.toList.drop k).take (p - k) = u := ⟨_, rfl⟩
                        rw [hu] at HW hud
                        have HX : Box ((acc ++ [u]).map bs = acc.map bs ++ [ub]) := box (by rw [List.map_append, List.map_cons, List.map_nil, hud])
                        have hm6 : Box ((acc.map bs).length ≤ 65536) := box (by rw [List.length_map]; omega)
                        clear hud hu
                        go_wp2_with (at_builtin; refine wpList_append_str _ rfl (.tmp 100) (.tmp 105) rfl w.heap.size _ (acc.map bs) rfl ?a21 _ _ rfl ub ?b21 ?c21 ?d21 ?_)
                        case a21 => exact own_below O0.out (below_new _ _)
                        case b21 => go_simp
                        case c21 => first | exact hm6.out | (have h := hm6.out; rw [List.length_map] at h; exact h)
                        case d21 => first | (simp; omega) | omega
                        intro v5 w5 hO5 hb5
                        have O5 : Box (OwnS w5 w.heap.size v5 ((acc ++ [u]).map bs)) := box (by rw [HX.out]; exact hO5)
                        have B5 := box ((BL.out.alloc hBw _).trans hb5)
                        clear hO5 hb5
                        have hpi : ((p : Nat) : Int) < (m.size : Int) := by omega
                        have hpd : m.data.toList[p]'(by rw [hml]; exact hpl) = m[p] := rfl
                        rcases h32 : (((m[p]).toNat : Int) != 32) with _ | _
                        · have HN : Box (T = valsL (m.data.toList.drop (p)) (acc ++ [u])) := box (by
                            rw [HT.out]
                            refine vals_at_word (by rw [hml]; exact hlt) HC32.out (by omega) HW.out (.inr ⟨by rw [hml]; exact hpl, ?_⟩)
                            rw [hpd]
                            have := byte_neq (c := m[p]) (d := 32)
                            rw [show ((32 : UInt8).toNat : Int) = 32 from rfl, h32] at this
                            simpa using this.symm)
                          clear hpd
                          go_wp2
                          go_roundw
                          case rel => exact ⟨acc ++ [u], p, by go_num, by omega, by rw [List.length_append]; simp only [List.length_cons, List.length_nil]; omega, HN.out, O5.out, B5.out⟩
                          case measure => simp [intOf]; omega
                        · have HN : Box (T = none) := box (by
                            rw [HT.out]
                            refine vals_at_bad (by rw [hml]; exact hlt) HC32.out (by omega) HW.out (by rw [hml]; exact hpl) ?_
                            rw [hpd]
                            have := byte_neq (c := m[p]) (d := 32)
                            rw [show ((32 : UInt8).toNat : Int) = 32 from rfl, h32] at this
                            simpa using this.symm)
                          clear hpd
                          go_wp2
                          go_ret2
                          exact valW_none HN B5.out
                    · have HPC := box hpc
                      have HN := box (HP.out.step hkp (by rw [hml]; exact hpl) (by rw [hpd]; exact hpc))
                      clear hpc hpd hstop
                      go_wp2_with fail
                      refine (rPlain_is HPC).mono ?_; rintro e w1 ⟨rfl, rfl⟩
                      go_wp2
                      go_round
                      case rel => exact ⟨p + 1, by go_num, by omega, by omega, HN⟩
                      case measure => simp [intOf]; omega
                  · have hpi : ¬ (p : Int) < (m.size : Int) := by omega
                    have HS := hstop (fun hi => by rw [hml] at hi; omega)
                    clear hstop
                    rcases HS.out with ⟨hpk, hTn⟩ | ⟨hpk, hwd⟩
                    · have HN := box hTn
                      clear hTn HS
                      subst hpk
                      have hkk : ((p : Int) == (p : Int)) = true := by simp
                      go_wp2
                      go_ret2
                      exact valW_none HN BL.out
                    · have hkk : ((p : Int) == (k : Int)) = false := by rw [beq_eq_false_iff_ne]; omega
                      have HW := box hwd
                      clear hwd HS
                      have ik : (0 : Int) ≤ (k : Int) := by omega
                      have ik2 : (k : Int) ≤ (p : Int) := by omega
                      have ip : (p : Int) ≤ (m.size : Int) := by omega
                      obtain ⟨ub, hub⟩ : ∃ ub, m.extract k p = ub := ⟨_, rfl⟩
                      have hud : bs ((m.data.toList.drop k).take (p - k)) = ub := by rw [← hub, ext_bs, List.drop_take]
                      obtain ⟨u, hu⟩ : ∃ u, (m.data.toList.drop k).take (p - k) = u := ⟨_, rfl⟩
                      rw [hu] at HW hud
                      have HX : Box ((acc ++ [u]).map bs = acc.map bs ++ [ub]) := box (by rw [List.map_append, List.map_cons, List.map_nil, hud])
                      have hm6 : Box ((acc.map bs).length ≤ 65536) := box (by rw [List.length_map]; omega)
                      clear hud hu
                      go_wp2_with (at_builtin; refine wpList_append_str _ rfl (.tmp 100) (.tmp 105) rfl w.heap.size _ (acc.map bs) rfl ?a22 _ _ rfl ub ?b22 ?c22 ?d22 ?_)
                      case a22 => exact own_below O0.out (below_new _ _)
                      try (case b22 => go_simp)
                      case c22 => first | exact hm6.out | (have h := hm6.out; rw [List.length_map] at h; exact h)
                      case d22 => first | (simp; omega) | omega
                      intro v5 w5 hO5 hb5
                      have O5 : Box (OwnS w5 w.heap.size v5 ((acc ++ [u]).map bs)) := box (by rw [HX.out]; exact hO5)
                      have B5 := box ((BL.out.alloc hBw _).trans hb5)
                      clear hO5 hb5
                      have hpi : ¬ ((p : Nat) : Int) < (m.size : Int) := by omega
                      have HN : Box (T = valsL (m.data.toList.drop (p)) (acc ++ [u])) := box (by
                        rw [HT.out]
                        exact vals_at_word (by rw [hml]; exact hlt) HC32.out (by omega) HW.out (.inl (by rw [hml]; omega)))
                      go_wp2
                      go_roundw
                      case rel => exact ⟨acc ++ [u], p, by go_num, by omega, by rw [List.length_append]; simp only [List.length_cons, List.length_nil]; omega, HN.out, O5.out, B5.out⟩
                      case measure => simp [intOf]; omega
              · have HC34 : Box (m.data.toList[k]'(by rw [hml]; exact hlt) = 34) := box (by rw [hkd]; exact byte_is (d := 34) hqu)
                clear hkd
                go_wp2
                go_loop [5] (fun i => ∃ p : Nat, i = .int .i64 p ∧ k + 1 ≤ p ∧ p ≤ m.size + 1 ∧ Box (QAt m.data.toList (k + 1) p)) (fun i => m.size + 1 - (intOf i).toNat)
                case atStart => exact ⟨k + 1, by go_num, Nat.le_refl _, by omega, box (QAt.start _ _)⟩
                case round =>
                  obtain ⟨p, rfl, hkp, hp, HP⟩ := hrel
                  by_cases hpl : p < m.size
                  · have hpi : (p : Int) < (m.size : Int) := by omega
                    have hpd : m.data.toList[p]'(by rw [hml]; exact hpl) = m[p] := rfl
                    rcases h34 : ((m[p].toNat : Int) != 34) with _ | _
                    · have g34 : m[p] = 34 := by
                        have := byte_neq (c := m[p]) (d := 34)
                        rw [show ((34 : UInt8).toNat : Int) = 34 from rfl, h34] at this; simpa using this.symm
                      have HQE := box (HP.out.hit hkp (by rw [hml]; exact hpl) (by rw [hpd]; exact g34))
                      clear g34 hpd
                      obtain ⟨x, hx⟩ : ∃ x, m.extract k (p + 1) = x := ⟨_, rfl⟩
                      have hxd : x.data.toList = (m.data.toList.drop k).take (p + 1 - (k + 1) + 1) := by
                        rw [← hx, ext_bs, bs_toList, List.drop_take]; congr 1; omega
                      have hxz : x.size ≤ 4294967296 := by rw [← hx, ByteArray.size_extract]; omega
                      have ik : (0 : Int) ≤ (k : Int) := by omega
                      have ik2 : (k : Int) ≤ (p : Int) + 1 := by omega
                      have ip : (p : Int) + 1 ≤ (m.size : Int) := by omega
                      rcases hu : unqL x.data.toList with _ | u
                      · have HU := box hu
                        have HN : Box (T = none) := box (by
                          rw [HT.out]
                          exact vals_at_none (by rw [hml]; exact hlt) HC32.out (word_quo0 (by rw [hml]; exact hlt) HC34.out HQE.out (by rw [← hxd]; exact hu)))
                        clear hu hxd
                        go_wp2_with fail
                        refine (rUnq_is hxz HU).mono ?_; rintro e w3 ⟨rfl, hb3⟩
                        have B3 := box (BL.out.trans (hb3.mono hBw))
                        unfold optV
                        clear hb3
                        go_wp2
                        go_ret2
                        exact valW_none HN B3.out
                      · have HU := box hu
                        obtain ⟨ub, hub⟩ : ∃ ub, bs u = ub := ⟨_, rfl⟩
                        have HW : Box (wordE (m.data.toList.drop k) = some (u, p + 1 - k)) := box (by
                          have := word_quo (u := u) (by rw [hml]; exact hlt) HC34.out HQE.out (by rw [← hxd]; exact hu)
                          rw [show p + 1 - k = p + 1 - (k + 1) + 1 from by omega]; exact this)
                        have HUB := box hub
                        have HX : Box ((acc ++ [u]).map bs = acc.map bs ++ [ub]) := box (by rw [List.map_append, List.map_cons, List.map_nil, hub])
                        have hm6 : Box ((acc.map bs).length ≤ 65536) := box (by rw [List.length_map]; omega)
                        clear hu hxd hub
                        go_wp2_with fail
                        refine (rUnq_is hxz HU).mono ?_; rintro e w3 ⟨rfl, hb3⟩
                        rw [show optV (some u) = .tuple #[.string (bs u), .bool true] from rfl, HUB.out]
                        have O3 := box (own_below O0.out hb3)
                        have B3 := box (BL.out.trans (hb3.mono hBw))
                        have hBw3 := Nat.le_trans hBw hb3.size
                        clear hb3
                        go_wp2_with (at_builtin; refine wpList_append_str _ rfl (.tmp 81) (.tmp 83) rfl w.heap.size _ (acc.map bs) rfl ?a1 _ _ rfl ub ?b1 ?c1 ?d1 ?_)
                        case a1 => exact own_below O3.out (below_new _ _)
                        case b1 => go_simp
                        case c1 => exact hm6.out
                        case d1 => simp; omega
                        intro v5 w5 hO5 hb5
                        have O5 : Box (OwnS w5 w.heap.size v5 ((acc ++ [u]).map bs)) := box (by rw [HX.out]; exact hO5)
                        have B5 := box ((B3.out.alloc hBw3 _).trans hb5)
                        clear hO5 hb5
                        by_cases hpl : p + 1 < m.size
                        · have hpi : ((p + 1 : Nat) : Int) < (m.size : Int) := by omega
                          have hpd : m.data.toList[p + 1]'(by rw [hml]; exact hpl) = m[p + 1] := rfl
                          rcases h32 : (((m[p + 1]).toNat : Int) != 32) with _ | _
                          · have HN : Box (T = valsL (m.data.toList.drop (p + 1)) (acc ++ [u])) := box (by
                              rw [HT.out]
                              refine vals_at_word (by rw [hml]; exact hlt) HC32.out (by omega) HW.out (.inr ⟨by rw [hml]; exact hpl, ?_⟩)
                              rw [hpd]
                              have := byte_neq (c := m[p + 1]) (d := 32)
                              rw [show ((32 : UInt8).toNat : Int) = 32 from rfl, h32] at this
                              simpa using this.symm)
                            clear hpd
                            go_wp2
                            go_roundw
                            case rel => exact ⟨acc ++ [u], p + 1, by go_num, by omega, by rw [List.length_append]; simp only [List.length_cons, List.length_nil]; omega, HN.out, O5.out, B5.out⟩
                            case measure => simp [intOf]; omega
                          · have HN : Box (T = none) := box (by
                              rw [HT.out]
                              refine vals_at_bad (by rw [hml]; exact hlt) HC32.out (by omega) HW.out (by rw [hml]; exact hpl) ?_
                              rw [hpd]
                              have := byte_neq (c := m[p + 1]) (d := 32)
                              rw [show ((32 : UInt8).toNat : Int) = 32 from rfl, h32] at this
                              simpa using this.symm)
                            clear hpd
                            go_wp2
                            go_ret2
                            exact valW_none HN B5.out
                        · have hpi : ¬ ((p + 1 : Nat) : Int) < (m.size : Int) := by omega
                          have HN : Box (T = valsL (m.data.toList.drop (p + 1)) (acc ++ [u])) := box (by
                            rw [HT.out]
                            exact vals_at_word (by rw [hml]; exact hlt) HC32.out (by omega) HW.out (.inl (by rw [hml]; omega)))
                          go_wp2
                          go_roundw
                          case rel => exact ⟨acc ++ [u], p + 1, by go_num, by omega, by rw [List.length_append]; simp only [List.length_cons, List.length_nil]; omega, HN.out, O5.out, B5.out⟩
                          case measure => simp [intOf]; omega
                    · have n34 : m[p] ≠ 34 := by
                        have := byte_neq (c := m[p]) (d := 34)
                        rw [show ((34 : UInt8).toNat : Int) = 34 from rfl, h34] at this; simpa using this.symm
                      rcases h92 : ((m[p].toNat : Int) == 92) with _ | _
                      · have HN := box (HP.out.any hkp (by rw [hml]; exact hpl) (by rw [hpd]; exact n34) (by rw [hpd]; exact byte_no (d := 92) h92))
                        clear n34 hpd
                        go_wp2
                        go_round
                        case rel => exact ⟨p + 1, by go_num, by omega, by omega, HN⟩
                        case measure => simp [intOf]; omega
                      · have HN := box (HP.out.esc hkp (by rw [hml]; exact hpl) (by rw [hpd]; exact byte_is (d := 92) h92))
                        clear n34 hpd
                        go_wp2
                        go_round
                        case rel => exact ⟨p + 2, by go_num, by omega, by omega, HN⟩
                        case measure => simp [intOf]; omega
                  · have hpi : ¬ (p : Int) < (m.size : Int) := by omega
                    have HN : Box (T = none) := box (by
                      rw [HT.out]
                      exact vals_at_none (by rw [hml]; exact hlt) HC32.out (word_quo1 (by rw [hml]; exact hlt) HC34.out (HP.out.fin (by rw [hml]; omega))))
                    go_wp2
                    go_ret2
                    exact valW_none HN BL.out
            · have HN : Box (T = valsL (m.data.toList.drop (k + 1)) acc) := box (by rw [HT.out]; exact vals_at_sp (by rw [hml]; exact hlt) (by rw [hkd]; exact byte_is (d := 32) hsp))
              clear hkd
              go_wp2
              go_roundw
              case rel => exact ⟨acc, k + 1, by go_num, by omega, by omega, HN.out, O0.out, BL.out⟩
              case measure => simp [intOf]; omega
          · have hki : ¬ (k : Int) < (m.size : Int) := by omega
            have HN : Box (T = some acc) := box (by rw [HT.out, List.drop_of_length_le (by rw [hml]; omega)]; rfl)
            go_wp2
            go_ret2
            exact ⟨_, by rw [HN.out]; rfl, by rw [HN.out]; exact O0.out, BL.out, fun h => by rw [HN.out] at h; cases h⟩
      · have HN : Box (T = none) := box (by
          rw [← hT]
          refine vals_last (by omega) ?_
          rw [e1]
          have := byte_neq (c := s[s.size - 1]) (d := 41)
          rw [show ((41 : UInt8).toNat : Int) = 41 from rfl, t1] at this; simpa using this.symm)
        clear hT e0 e1
        go_enter Tryz.func48, Tryz.ntmps48
        go_wp2
        go_ret2
        exact valW_none HN (Below.refl _ _)
    · have HN : Box (T = none) := box (by
        rw [← hT]
        refine vals_head (by omega) ?_
        rw [e0]
        have := byte_neq (c := s[0]) (d := 40)
        rw [show ((40 : UInt8).toNat : Int) = 40 from rfl, t0] at this; simpa using this.symm)
      clear hT e0 e1
      go_enter Tryz.func48, Tryz.ntmps48
      go_wp2
      go_ret2
      exact valW_none HN (Below.refl _ _)
end
section
def nmVar : ByteArray := ⟨#[86, 97, 114, 105, 97, 110, 116, 115]⟩
/-- a member: a token, '=', values -/
def memV (m : List UInt8) : Option AX :=
  if cutB 61 m = false ∨ tokL (cut1 61 m) = false then none
  else (valuesL (cut2 61 m)).map fun vs => (bs (lowL (cut1 61 m)), vs.map bs)
def memsV : List (List UInt8) → List AX → Option (List AX)
  | [], acc => some acc
  | m :: ms, acc => match memV m with
    | none => none
    | some x => memsV ms (acc ++ [x])
def varsE (L : List F) : Int :=
  if L.any (nmd nmVar) = false then 12
  else match memsV (allL nmVar L) [] with
    | none => 1
    | some X => if validX X = true then 0 else 11
def varsX (L : List F) : List AX :=
  if L.any (nmd nmVar) = false then []
  else match memsV (allL nmVar L) [] with
    | none => []
    | some X => if validX X = true then X else []
theorem vars_none {L : List F} (h : L.any (nmd nmVar) = false) : varsE L = 12 ∧ varsX L = [] := by unfold varsE varsX; rw [if_pos h, if_pos h]; exact ⟨rfl, rfl⟩
theorem vars_bad {L : List F} (h : L.any (nmd nmVar) = true) (hm : memsV (allL nmVar L) [] = none) : varsE L = 1 ∧ varsX L = [] := by
  unfold varsE varsX; rw [if_neg (by rw [h]; simp), if_neg (by rw [h]; simp), hm]; exact ⟨rfl, rfl⟩
theorem vars_lim {L : List F} {X : List AX} (h : L.any (nmd nmVar) = true) (hm : memsV (allL nmVar L) [] = some X) (hv : validX X = false) : varsE L = 11 ∧ varsX L = [] := by
  unfold varsE varsX; rw [if_neg (by rw [h]; simp), if_neg (by rw [h]; simp), hm]; simp [hv]
theorem vars_ok {L : List F} {X : List AX} (h : L.any (nmd nmVar) = true) (hm : memsV (allL nmVar L) [] = some X) (hv : validX X = true) : varsE L = 0 ∧ varsX L = X := by
  unfold varsE varsX; rw [if_neg (by rw [h]; simp), if_neg (by rw [h]; simp), hm]; simp [hv]
theorem memsV_bad {m : List UInt8} {ms : List (List UInt8)} {acc : List AX} (h : memV m = none) : memsV (m :: ms) acc = none := by
  show (match memV m with | none => none | some x => memsV ms (acc ++ [x])) = _; rw [h]
theorem memsV_more {m : List UInt8} {ms : List (List UInt8)} {acc : List AX} {x : AX} (h : memV m = some x) : memsV (m :: ms) acc = memsV ms (acc ++ [x]) := by
  show (match memV m with | none => none | some x => memsV ms (acc ++ [x])) = _; rw [h]
theorem word_size {l v : List UInt8} {n : Nat} (h : wordE l = some (v, n)) : v.length ≤ l.length + 1 := by
  cases l with
  | nil => cases h
  | cons c r =>
    rw [wordE_cons] at h
    by_cases hc : c = 34
    · rw [if_pos hc] at h
      obtain ⟨m, hm, h⟩ := Option.bind_eq_some_iff.1 h
      obtain ⟨u, hu, h⟩ := Option.map_eq_some_iff.1 h
      simp only [Prod.mk.injEq] at h
      have := (unq_facts hu).1
      rw [List.length_cons, List.length_take] at this
      rw [← h.1, List.length_cons]; omega
    · rw [if_neg hc] at h
      by_cases hp : plainC c = false
      · rw [if_pos hp] at h; cases h
      · rw [if_neg hp] at h
        simp only [Option.some.injEq, Prod.mk.injEq] at h
        rw [← h.1]
        have := (List.takeWhile_sublist plainC (l := c :: r)).length_le
        omega
theorem valsF_size : ∀ (f : Nat) (l : List UInt8) (acc X : List (List UInt8)) (B : Nat), valsF f l acc = some X → (∀ v ∈ acc, v.length ≤ B) → l.length + 1 ≤ B → X.length ≤ acc.length + l.length ∧ ∀ v ∈ X, v.length ≤ B
  | f, [], acc, X, B, h, ha, _ => by rw [valsF_nil] at h; cases h; exact ⟨by simp, ha⟩
  | 0, c :: r, acc, X, B, h, _, _ => by cases h
  | f + 1, c :: r, acc, X, B, h, ha, hB => by
    rw [List.length_cons] at hB
    rw [valsF_cons] at h
    by_cases hc : c = 32
    · rw [if_pos hc] at h
      obtain ⟨h1, h2⟩ := valsF_size f r acc X B h ha (by omega)
      exact ⟨by rw [List.length_cons]; omega, h2⟩
    · rw [if_neg hc] at h
      cases hw : wordE (c :: r) with
      | none => rw [hw] at h; cases h
      | some p =>
        obtain ⟨v, n⟩ := p
        rw [hw] at h
        have hn := wordE_pos hw
        have hs := word_size hw
        rw [List.length_cons] at hs
        have ha2 : ∀ x ∈ acc ++ [v], x.length ≤ B := fun x hx => by
          rcases List.mem_append.1 hx with q | q
          · exact ha x q
          · rw [List.mem_singleton.1 q]; omega
        simp only at h
        cases hd : (c :: r).drop n with
        | nil =>
          rw [hd] at h
          cases h
          exact ⟨by rw [List.length_append]; simp, ha2⟩
        | cons d r2 =>
          rw [hd] at h
          simp only at h
          by_cases h3 : d = 32
          · rw [if_pos h3] at h
            have hnl : n ≤ (c :: r).length := by
              rcases Nat.lt_or_ge (c :: r).length n with q | q
              · rw [List.drop_of_length_le (by omega)] at hd; cases hd
              · exact q
            have hl : (d :: r2).length + n = (c :: r).length := by rw [← hd, List.length_drop]; omega
            rw [List.length_cons (a := c)] at hl
            obtain ⟨h1, h2⟩ := valsF_size f (d :: r2) _ X B h ha2 (by omega)
            refine ⟨?_, h2⟩
            rw [List.length_append] at h1
            simp only [List.length_cons, List.length_nil] at h1 hl ⊢
            omega
          · rw [if_neg h3] at h; cases h
theorem values_size {l : List UInt8} {X : List (List UInt8)} (h : valuesL l = some X) : X.length ≤ l.length ∧ ∀ v ∈ X, v.length ≤ l.length := by
  unfold valuesL at h
  split at h
  · cases h
  · rename_i q
    have h2 : ¬ l.length < 2 := fun e => q (.inl e)
    have hl : ((l.drop 1).dropLast).length = l.length - 1 - 1 := by rw [List.length_dropLast, List.length_drop]
    obtain ⟨h3, h4⟩ := valsF_size _ _ _ _ l.length h (by simp) (by omega)
    exact ⟨by simp only [List.length_nil] at h3; omega, h4⟩
def szA (x : AX) (n : Nat) : Prop := x.1.size ≤ n ∧ x.2.length ≤ n ∧ ∀ v ∈ x.2, v.size ≤ n
theorem memV_size {m : List UInt8} {x : AX} (h : memV m = some x) : szA x m.length := by
  unfold memV at h
  split at h
  · cases h
  · obtain ⟨X, hX, h⟩ := Option.map_eq_some_iff.1 h
    obtain ⟨h1, h2⟩ := values_size hX
    have c1 : (cut1 61 m).length ≤ m.length := by unfold cut1; exact (List.takeWhile_sublist _).length_le
    have c2 : (cut2 61 m).length ≤ m.length := by unfold cut2; rw [List.length_drop]; have := (List.dropWhile_sublist (· != (61 : UInt8)) (l := m)).length_le; omega
    subst h
    refine ⟨?_, by rw [List.length_map]; omega, fun v hv => ?_⟩
    · rw [bs_size]; have : (lowL (cut1 61 m)).length = (cut1 61 m).length := by unfold lowL; simp
      omega
    · obtain ⟨y, hy, rfl⟩ := List.mem_map.1 hv
      rw [bs_size]; have := h2 y hy; omega
end
section
def wordW (v : List UInt8) : List UInt8 := if (visL v && v.all plainC) = true then v else quoteL v
def joinW : List (List UInt8) → List UInt8
  | [] => []
  | x :: r => wordW x ++ r.flatMap fun y => 32 :: wordW y
def writL (V : List (List UInt8)) : List UInt8 := 40 :: (joinW V ++ [41])
def axisL (x : AX) : List UInt8 := x.1.data.toList ++ 61 :: writL (x.2.map fun v => v.data.toList)
def axesB (L : List AX) : ByteArray := joinB (L.map fun x => bs (axisL x))
def fmtV (L : List AX) : ByteArray := if validX L = true then axesB L else ⟨#[]⟩
theorem word_len (v : List UInt8) : (wordW v).length ≤ 2 * v.length + 2 := by
  unfold wordW
  split
  · omega
  · unfold quoteL
    have := escL_len v
    rw [List.length_cons, List.length_append]; simp only [List.length_cons, List.length_nil]; omega
theorem joinW_more {V : List (List UInt8)} {k : Nat} (h : k < V.length) : joinW (V.take (k + 1)) = (if k = 0 then [] else joinW (V.take k) ++ [32]) ++ wordW V[k] := by
  cases V with
  | nil => simp at h
  | cons x r =>
    cases k with
    | zero => simp [joinW]
    | succ k =>
      have hk : k < r.length := by simpa using h
      rw [if_neg (by omega), List.take_succ_cons, List.take_succ_cons, List.getElem_cons_succ]
      show wordW x ++ (r.take (k + 1)).flatMap _ = (wordW x ++ (r.take k).flatMap _ ++ [32]) ++ wordW r[k]
      rw [take_next hk, List.flatMap_append]
      simp
theorem joinW_len {V : List (List UInt8)} {n : Nat} (hz : ∀ v ∈ V, v.length ≤ n) : ∀ k, (joinW (V.take k)).length ≤ k * (2 * n + 3)
  | 0 => by simp [joinW]
  | k + 1 => by
    have ih := joinW_len hz k
    by_cases h : k < V.length
    · rw [joinW_more h, List.length_append]
      have h1 := word_len V[k]
      have h2 := hz V[k] (List.getElem_mem h)
      have h3 : (if k = 0 then ([] : List UInt8) else joinW (V.take k) ++ [32]).length ≤ k * (2 * n + 3) + 1 := by
        split
        · simp
        · rw [List.length_append]; simp only [List.length_cons, List.length_nil]; omega
      rw [Nat.add_mul]; omega
    · rw [List.take_of_length_le (by omega)]
      rw [List.take_of_length_le (by omega)] at ih
      rw [Nat.add_mul]; omega
def fitA (x : AX) : Prop := x.1.size ≤ 1000 ∧ x.2.length ≤ 20 ∧ ∀ v ∈ x.2, v.size ≤ 1000
theorem writ_len {V : List ByteArray} (h1 : V.length ≤ 20) (h2 : ∀ v ∈ V, v.size ≤ 1000) : (writL (V.map fun v => v.data.toList)).length ≤ 41000 := by
  have := joinW_len (V := V.map fun v => v.data.toList) (n := 1000) (fun v hv => by
    obtain ⟨y, hy, rfl⟩ := List.mem_map.1 hv
    have := h2 y hy
    simpa using this) V.length
  rw [List.take_of_length_le (by simp)] at this
  unfold writL
  rw [List.length_cons, List.length_append]
  simp only [List.length_cons, List.length_nil]
  have : V.length * (2 * 1000 + 3) ≤ 20 * 2003 := Nat.mul_le_mul h1 (by omega)
  omega
end
section
/-- the value that a piece stands for -/
def readV (t : List UInt8) : Option (List UInt8) := if (t.all plainC) = true then some t else unqL t
def grpF : List (List UInt8) → List (List UInt8) → Option (List (List UInt8))
  | [], acc => some acc
  | t :: r, acc => if t = [] then grpF r acc else match readV t with
    | none => none
    | some v => grpF r (acc ++ [v])
theorem grpF_skip {r acc : List (List UInt8)} : grpF ([] :: r) acc = grpF r acc := by unfold grpF; rw [if_pos rfl]; cases r <;> rfl
theorem grpF_bad {t : List UInt8} {r acc : List (List UInt8)} (h : t ≠ []) (h2 : readV t = none) : grpF (t :: r) acc = none := by
  unfold grpF; rw [if_neg h, h2]
theorem grpF_more {t v : List UInt8} {r acc : List (List UInt8)} (h : t ≠ []) (h2 : readV t = some v) : grpF (t :: r) acc = grpF r (acc ++ [v]) := by
  conv => lhs; unfold grpF
  rw [if_neg h, h2]
theorem pc_quoted (sep : UInt8) : ∀ (k : Nat) (r acc : List UInt8), r.length ≤ k → (∀ n, qE r = some n → pcF sep 1 r acc = pcF sep 0 (r.drop n) (acc ++ r.take n) ∧ n ≤ r.length) ∧ (qE r = none → pcF sep 1 r acc = (acc ++ r, [], false))
  | k, [], acc, _ => ⟨fun n h => (by cases h), fun _ => by simp [pcF]⟩
  | 0, c :: r, acc, h => by simp at h
  | k + 1, c :: r, acc, h => by
    simp only [List.length_cons] at h
    rw [pcF_cons, if_neg (fun q => absurd q.1 (by decide))]
    by_cases h34 : c = 34
    · subst h34
      rw [qE_quo]
      refine ⟨fun n hn => ?_, fun hn => (by cases hn)⟩
      cases hn
      exact ⟨by simp [stepQ], by simp⟩
    · by_cases h92 : c = 92
      · subst h92
        have e2 : stepQ 1 (92 : UInt8) = 2 := by decide
        rw [e2]
        match r, h with
        | [], h => exact ⟨fun n hn => (by cases hn), fun _ => by simp [pcF]⟩
        | d :: r2, h =>
          simp only [List.length_cons] at h
          rw [qE_esc, pcF_cons, if_neg (fun q => absurd q.1 (by decide))]
          have e1 : stepQ 2 d = 1 := by unfold stepQ; rw [if_neg (by decide), if_neg (by decide)]
          rw [e1]
          obtain ⟨i1, i2⟩ := pc_quoted sep k r2 (acc ++ [92] ++ [d]) (by omega)
          refine ⟨fun n hn => ?_, fun hn => ?_⟩
          · obtain ⟨m, hm, rfl⟩ := Option.map_eq_some_iff.1 hn
            obtain ⟨j1, j2⟩ := i1 m hm
            refine ⟨?_, by simp only [List.length_cons]; omega⟩
            rw [j1]
            simp
          · rw [i2 (by simpa using hn)]; simp
      · rw [qE_any r h34 h92]
        have e1 : stepQ 1 c = 1 := by unfold stepQ; rw [if_neg (by decide), if_pos rfl, if_neg h34, if_neg h92]
        rw [e1]
        obtain ⟨i1, i2⟩ := pc_quoted sep k r (acc ++ [c]) (by omega)
        refine ⟨fun n hn => ?_, fun hn => ?_⟩
        · obtain ⟨m, hm, rfl⟩ := Option.map_eq_some_iff.1 hn
          obtain ⟨j1, j2⟩ := i1 m hm
          refine ⟨?_, by simp only [List.length_cons]; omega⟩
          rw [j1]; simp
        · rw [i2 (by simpa using hn)]; simp
/-- a text that is unescaped and a quote: the quote is the first that ends the quoted string -/
theorem qE_unesc : ∀ (k : Nat) (m u x : List UInt8), m.length ≤ k → unescL m = some u → qE (m ++ 34 :: x) = some (m.length + 1)
  | k, [], u, x, _, _ => qE_quo x
  | 0, c :: r, u, x, h, _ => by simp at h
  | k + 1, c :: r, u, x, h, hu => by
    simp only [List.length_cons] at h
    by_cases h34 : c = 34
    · subst h34; rw [unescL_q] at hu; cases hu
    · by_cases h92 : c = 92
      · subst h92
        match r, h, hu with
        | [], h, hu => rw [unescL_e] at hu; cases hu
        | d :: r2, h, hu =>
          simp only [List.length_cons] at h
          rw [unescL_b] at hu
          obtain ⟨v, hv, _⟩ := Option.map_eq_some_iff.1 hu
          rw [List.cons_append, List.cons_append, qE_esc, qE_unesc k r2 v x (by omega) hv]
          simp
      · rw [unescL_o c r h34 h92] at hu
        obtain ⟨v, hv, _⟩ := Option.map_eq_some_iff.1 hu
        rw [List.cons_append, qE_any _ h34 h92, qE_unesc k r v x (by omega) hv]
        simp
/-- what is unquoted is a quote, an inside and a quote -/
theorem unq_parts {l u : List UInt8} (h : unqL l = some u) : ∃ m, l = 34 :: (m ++ [34]) ∧ textL m = true ∧ unescL m = some u := by
  unfold unqL at h
  split at h
  · cases h
  · rename_i hc
    have h2 : ¬ l.length < 2 := fun e => hc (.inl e)
    have h0 : l.getD 0 0 = 34 := Classical.byContradiction fun e => hc (.inr (.inl e))
    have h1 : l.getD (l.length - 1) 0 = 34 := Classical.byContradiction fun e => hc (.inr (.inr e))
    refine ⟨(l.take (l.length - 1)).drop 1, ?_, ?_, ?_⟩
    · match l, h2, h0, h1 with
      | c :: r, h2, h0, h1 =>
        simp only [List.length_cons] at h2
        have hc0 : c = 34 := by simpa using h0
        subst hc0
        have hr : r ≠ [] := by intro e; subst e; simp at h2
        have e1 : (34 :: r).length - 1 = (r.length - 1) + 1 := by simp only [List.length_cons]; omega
        rw [e1] at h1 ⊢
        rw [List.take_succ_cons, List.drop_succ_cons, List.drop_zero]
        congr 1
        have hl : r[r.length - 1]'(by omega) = 34 := by
          rw [List.getD_eq_getElem?_getD, List.getElem?_cons_succ, List.getElem?_eq_getElem (by omega)] at h1
          simpa using h1
        have := List.dropLast_concat_getLast hr
        rw [List.getLast_eq_getElem, hl, List.dropLast_eq_take] at this
        exact this.symm
      | [], h2, _, _ => simp at h2
    · unfold unqIn at h; split at h
      · assumption
      · cases h
    · unfold unqIn at h; split at h
      · exact h
      · cases h
theorem qE_front : ∀ (k : Nat) (r x : List UInt8) (n : Nat), r.length ≤ k → qE r = some n → qE (r ++ x) = some n
  | k, [], x, n, _, h => by cases h
  | 0, c :: r, x, n, hl, _ => by simp at hl
  | k + 1, c :: r, x, n, hl, h => by
    simp only [List.length_cons] at hl
    by_cases h34 : c = 34
    · subst h34; rw [qE_quo] at h; rw [List.cons_append, qE_quo]; exact h
    · by_cases h92 : c = 92
      · subst h92
        match r, hl, h with
        | [], _, h => cases h
        | d :: r2, hl, h =>
          simp only [List.length_cons] at hl
          rw [qE_esc] at h
          obtain ⟨m, hm, rfl⟩ := Option.map_eq_some_iff.1 h
          rw [List.cons_append, List.cons_append, qE_esc, qE_front k r2 x m (by omega) hm]; rfl
      · rw [qE_any r h34 h92] at h
        obtain ⟨m, hm, rfl⟩ := Option.map_eq_some_iff.1 h
        rw [List.cons_append, qE_any _ h34 h92, qE_front k r x m (by omega) hm]; rfl
theorem qE_take : ∀ (k : Nat) (r : List UInt8) (n : Nat), r.length ≤ k → qE r = some n → qE (r.take n) = some n
  | k, [], n, _, h => by cases h
  | 0, c :: r, n, hl, _ => by simp at hl
  | k + 1, c :: r, n, hl, h => by
    simp only [List.length_cons] at hl
    by_cases h34 : c = 34
    · subst h34; rw [qE_quo] at h; cases h; rw [List.take_succ_cons, qE_quo]
    · by_cases h92 : c = 92
      · subst h92
        match r, hl, h with
        | [], _, h => cases h
        | d :: r2, hl, h =>
          simp only [List.length_cons] at hl
          rw [qE_esc] at h
          obtain ⟨m, hm, rfl⟩ := Option.map_eq_some_iff.1 h
          rw [List.take_succ_cons, List.take_succ_cons, qE_esc, qE_take k r2 m (by omega) hm]; rfl
      · rw [qE_any r h34 h92] at h
        obtain ⟨m, hm, rfl⟩ := Option.map_eq_some_iff.1 h
        rw [List.take_succ_cons, qE_any _ h34 h92, qE_take k r m (by omega) hm]; rfl
/-- what is unquoted ends with the quoted string's own last quote -/
theorem unq_end {r u : List UInt8} (h : unqL (34 :: r) = some u) : qE r = some r.length := by
  obtain ⟨m, e, _, hu⟩ := unq_parts h
  obtain rfl : r = m ++ [34] := (List.cons.inj e).2
  rw [qE_unesc m.length m u [] (Nat.le_refl _) hu]; simp
theorem unq_head5 {c : UInt8} {r : List UInt8} (h : c ≠ 34) : unqL (c :: r) = none := by
  cases hu : unqL (c :: r) with
  | none => rfl
  | some u => obtain ⟨m, e, _⟩ := unq_parts hu; exact absurd (List.cons.inj e).1 h
theorem pc_acc (sep : UInt8) : ∀ (l : List UInt8) (s : Nat) (acc : List UInt8), ∃ y, (pcF sep s l acc).1 = acc ++ y
  | [], s, acc => ⟨[], by simp [pcF]⟩
  | c :: r, s, acc => by
    rw [pcF_cons]
    split
    · exact ⟨[], by simp⟩
    · obtain ⟨y, hy⟩ := pc_acc sep r (stepQ s c) (acc ++ [c])
      exact ⟨c :: y, by rw [hy]; simp⟩
theorem plain_ne {c : UInt8} (h : plainC c = true) : c ≠ 34 ∧ c ≠ 32 ∧ c ≠ 44 ∧ c ≠ 40 ∧ c ≠ 41 ∧ c ≠ 9 := by
  unfold plainC at h
  simp only [Bool.and_eq_true, bne_iff_ne] at h
  obtain ⟨⟨⟨⟨⟨h1, h2⟩, h3⟩, h4⟩, h5⟩, h6⟩ := h
  exact ⟨h6, h1, h5, h3, h4, h2⟩
theorem pc_plain : ∀ (a r acc : List UInt8), (∀ c ∈ a, plainC c = true) → pcF 32 0 (a ++ r) acc = pcF 32 0 r (acc ++ a)
  | [], r, acc, _ => by simp
  | c :: a, r, acc, h => by
    have hc := plain_ne (h c (by simp))
    rw [List.cons_append, pcF_cons, if_neg (fun q => hc.2.1 q.2)]
    have e : stepQ 0 c = 0 := by unfold stepQ; rw [if_pos rfl, if_neg hc.1]
    rw [e, pc_plain a r _ (fun x hx => h x (by simp [hx]))]
    simp
theorem read_bad {c : UInt8} {r : List UInt8} (h : c ≠ 34) {d : UInt8} (hd : d ∈ c :: r) (hp : plainC d = false) : readV (c :: r) = none := by
  unfold readV
  have : (c :: r).all plainC = false := by rw [List.all_eq_false]; exact ⟨d, hd, by rw [hp]; simp⟩
  rw [this, unq_head5 h]; rfl
theorem read_quo (r : List UInt8) : readV (34 :: r) = unqL (34 :: r) := by
  unfold readV
  have : (34 :: r).all plainC = false := by rw [List.all_eq_false]; exact ⟨34, by simp, by decide⟩
  rw [this]; rfl
theorem cut_piece5 (l : List UInt8) : cutL 32 l = (pcL 32 l).1 :: moreL 32 (pcL 32 l).2.2 (pcL 32 l).2.1 := cutL_pc (by decide) l
theorem vals_grp : ∀ (k : Nat) (l : List UInt8) (acc : List (List UInt8)), l.length ≤ k → valsL l acc = grpF (cutL 32 l) acc
  | k, [], acc, _ => by rw [valsL_nil, show cutL 32 [] = [[]] from rfl, grpF_skip]; rfl
  | 0, c :: r, acc, h => by simp at h
  | k + 1, c :: r, acc, h => by
    simp only [List.length_cons] at h
    rw [cut_piece5]
    by_cases h32 : c = 32
    · subst h32
      have e : pcL 32 (32 :: r) = ([], r, true) := by unfold pcL; rw [pcF_cons, if_pos ⟨rfl, rfl⟩]
      rw [valsL_sp, e, vals_grp k r acc (by omega)]
      show _ = grpF ([] :: cutL 32 r) acc
      rw [grpF_skip]
    · by_cases h34 : c = 34
      · subst h34
        have e0 : pcL 32 (34 :: r) = pcF 32 1 r [34] := by
          unfold pcL; rw [pcF_cons, if_neg (fun q => absurd q.2 (by decide))]; rfl
        obtain ⟨q1, q2⟩ := pc_quoted 32 r.length r [34] (Nat.le_refl _)
        cases hq : qE r with
        | none =>
          have hw : wordE (34 :: r) = none := by rw [wordE_cons, if_pos rfl, hq]; rfl
          rw [valsL_none (by decide) hw, e0, q2 hq]
          have hu : unqL (34 :: r) = none := by
            cases hu : unqL (34 :: r) with
            | none => rfl
            | some u => rw [unq_end hu] at hq; cases hq
          exact (grpF_bad (by simp) (by show readV (34 :: r) = none; rw [read_quo, hu])).symm
        | some n =>
          obtain ⟨j1, j2⟩ := q1 n hq
          have hdl : (34 :: r).drop (n + 1) = r.drop n := rfl
          have hqt := qE_take r.length r n (Nat.le_refl _) hq
          cases hd : r.drop n with
          | nil =>
            have hn : n = r.length := by have := congrArg List.length hd; rw [List.length_drop] at this; simp at this; omega
            have htk : r.take n = r := List.take_of_length_le (by omega)
            rw [e0, j1, hd, htk]
            show _ = grpF [34 :: r] acc
            cases hu : unqL (34 :: r) with
            | none =>
              have hw : wordE (34 :: r) = none := by rw [wordE_cons, if_pos rfl, hq]; simp [htk, hu]
              rw [valsL_none (by decide) hw, grpF_bad (by simp) (by rw [read_quo, hu])]
            | some u =>
              have hw : wordE (34 :: r) = some (u, n + 1) := by rw [wordE_cons, if_pos rfl, hq]; simp [htk, hu]
              rw [valsL_end (by decide) hw (by rw [hdl, hd]), hdl, hd, valsL_nil, grpF_more (by simp) (by rw [read_quo, hu])]; rfl
          | cons d r2 =>
            have hlen : (r.drop n).length = r.length - n := List.length_drop ..
            rw [hd, List.length_cons] at hlen
            rw [e0, j1, hd]
            by_cases h3 : d = 32
            · subst h3
              rw [pcF_cons, if_pos ⟨rfl, rfl⟩]
              show _ = grpF ((34 :: r.take n) :: cutL 32 r2) acc
              cases hu : unqL (34 :: r.take n) with
              | none =>
                have hw : wordE (34 :: r) = none := by rw [wordE_cons, if_pos rfl, hq]; simp [hu]
                rw [valsL_none (by decide) hw, grpF_bad (by simp) (by rw [read_quo, hu])]
              | some u =>
                have hw : wordE (34 :: r) = some (u, n + 1) := by rw [wordE_cons, if_pos rfl, hq]; simp [hu]
                rw [valsL_word (by decide) hw (by rw [hdl, hd]), hdl, hd, valsL_sp, grpF_more (by simp) (by rw [read_quo, hu]), vals_grp k r2 _ (by omega)]
            · rw [pcF_cons, if_neg (fun q => h3 q.2)]
              obtain ⟨y, hy⟩ := pc_acc 32 r2 (stepQ 0 d) ([34] ++ r.take n ++ [d])
              have hv : valsL (34 :: r) acc = none := by
                cases hu : unqL (34 :: r.take n) with
                | none =>
                  have hw : wordE (34 :: r) = none := by rw [wordE_cons, if_pos rfl, hq]; simp [hu]
                  rw [valsL_none (by decide) hw]
                | some u =>
                  have hw : wordE (34 :: r) = some (u, n + 1) := by rw [wordE_cons, if_pos rfl, hq]; simp [hu]
                  rw [valsL_bad (by decide) hw (by rw [hdl, hd]) h3]
              have he : [34] ++ r.take n ++ [d] ++ y = 34 :: (r.take n ++ d :: y) := by simp
              have hu : unqL (34 :: (r.take n ++ d :: y)) = none := by
                cases hu : unqL (34 :: (r.take n ++ d :: y)) with
                | none => rfl
                | some u =>
                  have h1 := unq_end hu
                  rw [qE_front _ _ (d :: y) n (Nat.le_refl _) hqt] at h1
                  have h2 := Option.some.inj h1
                  rw [List.length_append, List.length_take, List.length_cons] at h2
                  omega
              rw [hv, hy, he, grpF_bad (by simp) (by rw [read_quo, hu])]
      · cases hp : plainC c with
        | false =>
          have hw : wordE (c :: r) = none := by rw [wordE_cons, if_neg h34, if_pos hp]
          have e0 : pcL 32 (c :: r) = pcF 32 0 r [c] := by
            unfold pcL; rw [pcF_cons, if_neg (fun q => h32 q.2)]
            have : stepQ 0 c = 0 := by unfold stepQ; rw [if_pos rfl, if_neg h34]
            rw [this]; rfl
          obtain ⟨y, hy⟩ := pc_acc 32 r 0 [c]
          rw [valsL_none h32 hw, e0, hy]
          exact (grpF_bad (by simp) (read_bad h34 (by simp) hp)).symm
        | true =>
          obtain ⟨a, ha⟩ : ∃ a, (c :: r).takeWhile plainC = a := ⟨_, rfl⟩
          have hw : wordE (c :: r) = some (a, a.length) := by rw [wordE_cons, if_neg h34, if_neg (by rw [hp]; simp), ha]
          have hsp : a ++ (c :: r).drop a.length = c :: r := by
            have := List.takeWhile_append_dropWhile (p := plainC) (l := c :: r)
            rw [ha] at this
            have h2 : (c :: r).drop a.length = (c :: r).dropWhile plainC := by
              conv => lhs; rw [← this]
              rw [List.drop_left]
            rw [h2]; exact this
          have hall : ∀ x ∈ a, plainC x = true := fun x hx => by rw [← ha] at hx; exact (List.all_eq_true.1 List.all_takeWhile) x hx
          have ha0 : a = c :: r.takeWhile plainC := by rw [← ha, List.takeWhile_cons_of_pos hp]
          have hane : a ≠ [] := by rw [ha0]; simp
          have hra : readV a = some a := by unfold readV; rw [if_pos (List.all_eq_true.2 hall)]
          have hpc : pcL 32 (c :: r) = pcF 32 0 ((c :: r).drop a.length) a := by
            unfold pcL
            conv => lhs; rw [← hsp]
            rw [pc_plain a _ [] hall]; rfl
          rw [hpc]
          cases hd : (c :: r).drop a.length with
          | nil =>
            rw [valsL_end h32 hw hd, hd, valsL_nil]
            show _ = grpF [a] acc
            rw [grpF_more hane hra]; rfl
          | cons d r2 =>
            have hlen : ((c :: r).drop a.length).length = (c :: r).length - a.length := List.length_drop ..
            rw [hd, List.length_cons, List.length_cons] at hlen
            have hal : 1 ≤ a.length := by rw [ha0]; simp
            by_cases h3 : d = 32
            · subst h3
              rw [valsL_word h32 hw hd, hd, valsL_sp, pcF_cons, if_pos ⟨rfl, rfl⟩]
              show _ = grpF (a :: cutL 32 r2) acc
              rw [grpF_more hane hra, vals_grp k r2 _ (by omega)]
            · have hdp : plainC d = false := by
                have h5 : (c :: r).dropWhile plainC = d :: r2 := by
                  have := List.takeWhile_append_dropWhile (p := plainC) (l := c :: r)
                  rw [ha] at this
                  have h2 : (c :: r).drop a.length = (c :: r).dropWhile plainC := by
                    conv => lhs; rw [← this]
                    rw [List.drop_left]
                  rw [← h2]; exact hd
                have := List.head?_dropWhile_not plainC (c :: r)
                rw [h5] at this
                simpa using this
              rw [valsL_bad h32 hw hd h3, pcF_cons, if_neg (fun q => h3 q.2)]
              obtain ⟨y, hy⟩ := pc_acc 32 r2 (stepQ 0 d) (a ++ [d])
              rw [hy]
              have he : a ++ [d] ++ y = c :: (r.takeWhile plainC ++ d :: y) := by rw [ha0]; simp
              rw [he]
              exact (grpF_bad (by simp) (read_bad h34 (by simp) hdp)).symm
end
end Go.Proofs.YtodbmdekgfcjpaaGreat.Asc
