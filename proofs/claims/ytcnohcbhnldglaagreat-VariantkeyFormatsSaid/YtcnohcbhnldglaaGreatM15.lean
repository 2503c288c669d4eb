/- Merged texts: VarRule VarVal VarAxP GrpCon GrpCut VarRef8 GrpMine. -/
import Derived.Test.YtcnohcbhnldglaaGreatM07
import Derived.Test.YtcnohcbhnldglaaGreatM09
import Derived.Test.YtcnohcbhnldglaaGreatM10
import Derived.Test.YtcnohcbhnldglaaGreatM11
import Derived.Test.YtcnohcbhnldglaaGreatM12
import Derived.Test.YtcnohcbhnldglaaGreatM13
import Derived.Test.YtcnohcbhnldglaaGreatM14
import Derived.Handy
set_option linter.unusedVariables false
set_option linter.unusedSimpArgs false
set_option maxRecDepth 100000
namespace Go.Proofs.YtcnohcbhnldglaaGreat.Asc
section
open Go.RowKit
/-- what values that are the Same have in common -/
def formF (n x : ByteArray) : ByteArray :=
  if kindN n = 1 ∨ kindN n = 2 then bs (lowL x.data.toList) else if kindN n = 3 ∨ kindN n = 4 then bs (canL (kindN n) x.data.toList) else x
theorem form_same (n x y : ByteArray) : sameV n x y = decide (formF n x = formF n y) := by
  unfold sameV formF
  split
  · unfold foldL
    exact decide_eq_decide.2 ⟨fun h => by rw [h], fun h => bs_inj h⟩
  · split
    · exact decide_eq_decide.2 ⟨fun h => by rw [h], fun h => bs_inj h⟩
    · rfl
theorem form_size {n x : ByteArray} (h : x.size ≤ 65000) : (formF n x).size ≤ 65000 := by
  unfold formF
  have h1 : (lowL x.data.toList).length = x.size := by simp [lowL]
  split
  · rw [bs_size]; omega
  · split
    · rw [bs_size]; have := can_len (kindN n) x.data.toList; have : x.data.toList.length = x.size := by simp
      omega
    · exact h
/-- q and the first j names -/
def inN (L : List F) (j : Nat) : ByteArray → Bool := fun x => decide (x = qName) || (List.range j).any fun i => decide (atP L i = x)
theorem inN_zero (L : List F) (x : ByteArray) : andS noS qName x = inN L 0 x := by unfold andS noS inN; simp
theorem inN_more (L : List F) (j : Nat) (x : ByteArray) : andS (inN L j) (atP L j) x = inN L (j + 1) x := by
  unfold andS inN
  rw [List.range_succ, List.any_append]
  simp only [List.any_cons, List.any_nil, Bool.or_false, Bool.or_assoc]
  congr 2
  exact decide_eq_decide.2 ⟨Eq.symm, Eq.symm⟩
theorem inN_at (L : List F) (j : Nat) : (newP L j j && decide (atP L j ≠ qName)) = !inN L j (atP L j) := by
  unfold newP inN
  rw [Bool.not_or, Bool.and_comm]
  congr 1
  · simp
  · rw [Bool.eq_iff_iff, List.all_eq_true, Bool.not_eq_true', List.any_eq_false]
    constructor
    · intro h i hi; have := h i hi; simp at this; simpa using fun e => this e.symm
    · intro h i hi; have := h i hi; simp at this; simpa using fun e => this e.symm
def DiRel (L : List F) (W : World) (i : Value) (wr : World) : Prop :=
  ∃ j : Nat, i = .int .i64 j ∧ j ≤ L.length ∧ ownP L j = true ∧ Box (SSet wr W.heap.size (j + 1) (inN L j)) ∧ Box (Below W.heap.size W wr)
set_option maxHeartbeats 1000000 in
theorem distinct_any (a : Option Addr) (cap : Nat) (L : List F) (z : Bool) (w : World) (hl : L.length ≤ 65536) (hz : Box (∀ i (hi : i < L.length), L[i].1.size ≤ 65536)) (hF : Box (Fs w a L)) (hv : Box (ownP L L.length = z)) :
    Calls Tryz.prog 134 #[.slice a L.length cap] w fun e w' => e = .returned (.bool z) ∧ Below w.heap.size w w' := by
  obtain ⟨w2, hP, hS2, hg⟩ := (SSet.made w).put (s := ⟨#[113]⟩) (by decide) (by decide)
  have S2 : Box (SSet w2 w.heap.size 1 (inN L 0)) := box (hS2.same (inN_zero L))
  have B2 := box ((below_new w (.map #[] 0)).grown hg (below_new w _).size (fun k hk => by cases hk; exact Nat.le_refl _))
  clear hS2 hg
  have hmm := makeMap15 w
  go_enter Tryz.func134, Tryz.ntmps134
  go_wp2
  go_loopw [10] (fun i wr => DiRel L w i wr) (fun i _ => L.length - (intOf i).toNat)
  case atStart => exact ⟨0, rfl, Nat.zero_le _, rfl, S2, B2⟩
  case round =>
    obtain ⟨j, rfl, hj, ho, hS, hB⟩ := hrel
    have HO := box ho
    clear ho
    by_cases hlt : j < L.length
    · obtain ⟨g, off, rfl, c0, c1⟩ := (hF.out.below hB.out) j hlt
      have hs1 := hz.out j hlt
      have hat := atP_is hlt
      obtain ⟨⟨nm, v⟩, hnm⟩ : ∃ p, L[j] = p := ⟨_, rfl⟩
      rw [hnm] at c0 c1 hs1 hat
      simp only at c0 c1 hs1 hat
      have hno : (newP L j j && decide (atP L j ≠ qName)) = !inN L j nm := by rw [inN_at, hat]
      have hsm : nm.size ≤ maxLen := by unfold maxLen; omega
      have HSM := box hsm
      clear hsm
      have hjm : j + 1 < maxLen := by unfold maxLen; omega
      have HJM := box hjm
      clear hjm
      have hw1 := hS.out.lt
      have BN := box (below_new wr (.cells #[.string nm, .string v] 108))
      have S3 := box (hS.out.below BN.out hw1)
      have B3 := box (hB.out.trans (BN.out.mono (Nat.le_of_lt hw1)))
      obtain ⟨q, hq⟩ : ∃ q, inN L j nm = q := ⟨_, rfl⟩
      rw [hq] at hno
      have HQ := box hq
      have HN := box hno
      clear hq hno
      go_wp2_with fail
      refine (add_any w.heap.size (j + 1) (inN L j) nm q _ HSM.out HJM.out S3 HQ).mono ?_; rintro e w4 ⟨rfl, hS4, hb4⟩
      have S4 : Box (SSet w4 w.heap.size (j + 1 + 1) (inN L (j + 1))) := box (hS4.same (fun x => by rw [← hat]; exact inN_more L j x))
      have B4 := box (B3.out.trans hb4)
      clear hS4 hb4 c0 c1 hat hnm
      cases q with
      | true =>
        have HZ : Box (z = false) := box (by
          rw [← hv.out]
          exact range_no (f := fun i => newP L i i && decide (atP L i ≠ qName)) hlt HN.out)
        go_wp2
        go_ret
        exact ⟨by rw [HZ.out]; rfl, B4.out⟩
      | false =>
        have HO2 : Box (ownP L (j + 1) = true) := box (by rw [ownP_more, HO.out, HN.out]; rfl)
        go_wp2
        go_roundw
        case rel => exact ⟨j + 1, by go_num, by omega, HO2.out, S4, B4⟩
        case measure => simp [intOf]; omega
    · obtain rfl : j = L.length := by omega
      have HZ : Box (z = true) := box (by rw [← hv.out]; exact HO.out)
      go_wp2
      go_ret
      exact ⟨by rw [HZ.out]; rfl, hB.out⟩
theorem mMedia15_is {x a b : ByteArray} {L : List F} {q : Bool} {w : World} (hx : x.size ≤ 65000) (h : Box (ofM (mediaL x.data.toList) = (a, b, L) ∧ (mediaL x.data.toList).isSome = q)) :
    Calls Tryz.prog 133 #[.string x] w fun e w' => ∃ p c, e = .returned (.tuple #[.agg #[.string a, .string b, .slice p L.length c], .bool q]) ∧ Fs w' p L ∧ Below w.heap.size w w' := by
  refine (mMedia_any x w hx).mono ?_
  rintro e w' ⟨v, rfl, hO, hb⟩
  obtain ⟨h1, h2⟩ := h.out
  rw [h1] at hO ⊢
  obtain ⟨p, c, rfl, hF, _⟩ := hO.fs
  exact ⟨p, c, by rw [h2], hF, hb⟩
theorem mCan15_is {k : Int} {s x : ByteArray} {w : World} (hk : InI64 k) (hs : s.size ≤ 65000) (h : Box (bs (canL k s.data.toList) = x)) :
    Calls Tryz.prog 154 #[.int .i64 k, .string s] w fun e w' => e = .returned (.string x) ∧ Below w.heap.size w w' :=
  (mCan_any k s w hk (by omega)).mono fun e w' ⟨h1, h2⟩ => ⟨by rw [h1, h.out], h2⟩
theorem aText15_is {s : ByteArray} {b : Bool} {w : World} (hs : s.size ≤ maxLen) (h : Box (textL s.data.toList = b)) :
    Calls Tryz.prog 97 #[.string s] w fun e w' => e = .returned (.bool b) ∧ w = w' :=
  (Text_any s w hs).mono fun e w' ⟨h1, h2⟩ => ⟨by rw [h1, h.out], h2⟩
theorem mKind15_is {n : ByteArray} {k : Int} {w : World} (hn : n.size ≤ 65000) (h : Box (kindN n = k)) :
    Calls Tryz.prog 85 #[.string n] w fun e w' => e = .returned (.int .i64 k) ∧ Below w.heap.size w w' :=
  (mKind_any n w (by omega)).mono fun e w' ⟨h1, h2⟩ => ⟨by rw [h1, h.out], h2⟩
/-- a method form: what it returns for the axis n -/
def FormIs (n : ByteArray) (fn : Nat) (r : Value) : Prop := ∀ (x : ByteArray) (w : World), x.size ≤ 65000 →
  Calls Tryz.prog fn #[r, .string x] w fun e w' => e = .returned (.tuple #[.string (formF n x), .bool (valueV n x)]) ∧ Below w.heap.size w w'
set_option maxHeartbeats 1000000 in
theorem form1_any (n : ByteArray) (hk : kindN n = 1) : FormIs n 132 (.agg #[]) := by
  intro x w hx
  obtain ⟨⟨ta, tb, L⟩, hM⟩ : ∃ m, ofM (mediaL x.data.toList) = m := ⟨_, rfl⟩
  obtain ⟨q, hq⟩ : ∃ q, (mediaL x.data.toList).isSome = q := ⟨_, rfl⟩
  have HM := box (And.intro hM hq)
  obtain ⟨z, hz⟩ : ∃ z, ownP L L.length = z := ⟨_, rfl⟩
  have HV : Box (valueV n x = (q && z)) := box (by unfold valueV; rw [if_pos hk, hM, hq]; exact congrArg _ hz)
  have HF : Box (bs (lowL x.data.toList) = formF n x) := box (by unfold formF; rw [if_pos (.inl hk)])
  obtain ⟨hL6, hsz, _⟩ := media_len hM
  have HSZ : Box (∀ i (hi : i < L.length), L[i].1.size ≤ 65536) := box (fun i hi => by have := (hsz i hi).1; omega)
  have hL7 : L.length ≤ 65536 := by omega
  have HZ := box hz
  have hx4 : x.size ≤ 4294967296 := by omega
  clear hM hq hL6 hsz hz hk
  have B0 := box (below_new w (.cells #[] 98))
  rw [HV.out]
  generalize formF n x = f at HF
  clear HV
  go_enter Tryz.func132, Tryz.ntmps132
  go_wp2_with fail
  refine (mMedia15_is hx HM).mono ?_; rintro e w2 ⟨p, c, rfl, hF, hb2⟩
  have B2 := box (B0.out.trans (hb2.mono B0.out.size))
  have F2 := box hF
  have hs2 := B2.out.size
  clear hb2 hF
  have BN := box (below_new w2 (.cells #[.string ta, .string tb, .slice p L.length c] 105))
  have hC := C3.new (.string ta) (.string tb) (.slice p L.length c) w2 105
  have B3 := box (B2.out.trans (BN.out.mono hs2))
  go_wp2_with fail
  refine (aLower_is hx4 HF).mono ?_; rintro e w3 ⟨rfl, hb3⟩
  have B4 := box (B3.out.trans (hb3.mono B3.out.size))
  have F4 := box (F2.out.below (BN.out.trans (hb3.mono BN.out.size)))
  obtain ⟨⟨r0, r1, r2⟩, _⟩ := hC.next hb3
  clear hC hb3
  cases q with
  | false =>
    go_wp2
    go_ret2
    exact ⟨rfl, B4.out⟩
  | true =>
    go_wp2_with fail
    refine (distinct_any p c L z _ hL7 HSZ F4 HZ).mono ?_; rintro e w5 ⟨rfl, hb5⟩
    have B5 := box (B4.out.trans (hb5.mono B4.out.size))
    clear hb5
    go_wp2
    go_ret2
    exact ⟨rfl, B5.out⟩
theorem form2_any (n : ByteArray) (hk : kindN n = 2) : FormIs n 148 (.agg #[]) := by
  intro x w hx
  obtain ⟨q, hq⟩ : ∃ q, tagL x.data.toList = q := ⟨_, rfl⟩
  have HV : Box (valueV n x = q) := box (by unfold valueV; rw [if_neg (by omega), if_pos hk, hq])
  have HF : Box (bs (lowL x.data.toList) = formF n x) := box (by unfold formF; rw [if_pos (.inr hk)])
  have HQ := box hq
  have hx4 : x.size ≤ 4294967296 := by omega
  clear hq hk
  have B0 := box (below_new w (.cells #[] 99))
  rw [HV.out]
  generalize formF n x = f at HF
  clear HV
  go_enter Tryz.func148, Tryz.ntmps148
  go_wp2_with fail
  refine (aLower_is hx4 HF).mono ?_; rintro e w3 ⟨rfl, hb3⟩
  have B4 := box (B0.out.trans (hb3.mono B0.out.size))
  clear hb3
  go_wp2_with fail
  refine (mTagM_is hx HQ).mono ?_; rintro e w5 ⟨rfl, hb5⟩
  have B5 := box (B4.out.trans (hb5.mono B4.out.size))
  clear hb5
  go_wp2
  go_ret2
  exact ⟨rfl, B5.out⟩
theorem form3_any (n : ByteArray) (k : Int) (h34 : k = 3 ∨ k = 4) (hk : kindN n = k) : FormIs n 153 (.agg #[.int .i64 k]) := by
  intro x w hx
  obtain ⟨q, hq⟩ : ∃ q, tokL x.data.toList = q := ⟨_, rfl⟩
  obtain ⟨z, hz⟩ : ∃ z, (!(x.toList == [42])) = z := ⟨_, rfl⟩
  have HV : Box (valueV n x = (q && z)) := box (by
    unfold valueV; rw [if_neg (by omega), if_neg (by omega), if_pos (by omega), hq, ← hz, show ([42] : List UInt8) = star.toList from by rw [toList_data]; rfl, ne_toList])
  have HF : Box (bs (canL k x.data.toList) = formF n x) := box (by unfold formF; rw [if_neg (by omega), if_pos (by omega), hk])
  have HQ := box hq
  have hk64 : InI64 k := by constructor <;> omega
  have HX : Box (x.size ≤ maxLen) := box (by unfold maxLen; omega)
  clear hq hk
  have B0 := box (below_new w (.cells #[.int .i64 k] 101))
  rw [HV.out]
  generalize formF n x = f at HF
  clear HV h34
  go_enter Tryz.func153, Tryz.ntmps153
  go_wp2_with fail
  refine (mCan15_is hk64 hx HF).mono ?_; rintro e w3 ⟨rfl, hb3⟩
  have B4 := box (B0.out.trans (hb3.mono B0.out.size))
  clear hb3
  go_wp2_with fail
  refine (aToken_is HX.out HQ).mono ?_; rintro e w5 ⟨rfl, rfl⟩
  cases q with
  | false =>
    go_wp2
    go_ret2
    exact ⟨rfl, B4.out⟩
  | true =>
    go_wp2
    go_ret2
    exact ⟨rfl, B4.out⟩
theorem from1_any (m k : Int) (w : World) : Calls Tryz.prog 35 #[.int .i64 m, .int .i64 k] w fun e w' => e = .returned (.bool (decide (1 ≤ k) && decide (k ≤ m))) ∧ w = w' := by
  by_cases h : 1 ≤ k
  · rw [decide_eq_true h]
    go_enter Tryz.func35, Tryz.ntmps35
    go_wp2
    go_ret
    exact ⟨rfl, rfl⟩
  · rw [decide_eq_false h]
    go_enter Tryz.func35, Tryz.ntmps35
    go_wp2
    go_ret
    exact ⟨rfl, rfl⟩
theorem from1_is {m k : Int} {q : Bool} {w : World} (h : Box ((decide (1 ≤ k) && decide (k ≤ m)) = q)) : Calls Tryz.prog 35 #[.int .i64 m, .int .i64 k] w fun e w' => e = .returned (.bool q) ∧ w = w' :=
  (from1_any m k w).mono fun e w' ⟨h1, h2⟩ => ⟨by rw [h1, h.out], h2⟩
set_option maxHeartbeats 1000000 in
theorem form0_any (n : ByteArray) (hk : kindN n = 0) : FormIs n 155 (.agg #[]) := by
  intro x w hx
  obtain ⟨p, hp⟩ : ∃ p, (decide (1 ≤ (x.size : Int)) && decide ((x.size : Int) ≤ 100)) = p := ⟨_, rfl⟩
  obtain ⟨q, hq⟩ : ∃ q, textL x.data.toList = q := ⟨_, rfl⟩
  obtain ⟨t, ht⟩ : ∃ t, bs (trimL x.data.toList) = t := ⟨_, rfl⟩
  obtain ⟨z, hz⟩ : ∃ z, (t.toList == x.toList) = z := ⟨_, rfl⟩
  have HV : Box (valueV n x = (p && q && z)) := box (by
    unfold valueV
    rw [if_neg (by omega), if_neg (by omega), if_neg (by omega), hq, ← hp, ← hz, ← ht, toList_bs]
    congr 1
    · congr 1
      congr 1
      · exact decide_eq_decide.2 (by omega)
      · exact decide_eq_decide.2 (by omega)
    · rw [toList_data]
      by_cases e : trimL x.data.toList = x.data.toList
      · rw [decide_eq_true e, beq_iff_eq.2 e]
      · rw [decide_eq_false e, beq_eq_false_iff_ne.2 e])
  have HF : Box (formF n x = x) := box (by unfold formF; rw [if_neg (by omega), if_neg (by omega)])
  have HP := box hp
  have HQ := box hq
  have HT := box ht
  have HX : Box (x.size ≤ maxLen) := box (by unfold maxLen; omega)
  clear hp hq ht hk
  have B0 := box (below_new w (.cells #[] 102))
  rw [HV.out, HF.out]
  clear HV HF
  go_enter Tryz.func155, Tryz.ntmps155
  go_wp2_with fail
  refine (from1_is HP).mono ?_; rintro e w3 ⟨rfl, rfl⟩
  cases p with
  | false =>
    go_wp2
    go_ret2
    exact ⟨rfl, B0.out⟩
  | true =>
    go_wp2_with fail
    refine (aText15_is HX.out HQ).mono ?_; rintro e w5 ⟨rfl, rfl⟩
    cases q with
    | false =>
      go_wp2
      go_ret2
      exact ⟨rfl, B0.out⟩
    | true =>
      go_wp2_with fail
      refine (aTrim_is HX.out HT).mono ?_; rintro e w6 ⟨rfl, rfl⟩
      go_wp2
      go_ret2
      exact ⟨rfl, B0.out⟩
/-- an interface value whose method form is the axis n's -/
def RuleIs (n : ByteArray) (v : Value) : Prop := ∃ (T : TypeId) (r : Value) (fn : Nat), v = .iface T r ∧ FormIs n fn r ∧
  (∀ k w, (method (k + 2) T r "variantproxy/variants.form").run Tryz.prog w = .ok (fn, r) w) ∧ (∀ a w, (callFunc fn a).run Tryz.prog w = .ok (.enter fn a) w)
theorem ruleOf_any (n : ByteArray) (w : World) (hn : n.size ≤ 65000) :
    Calls Tryz.prog 57 #[.string n] w fun e w' => ∃ v, e = .returned v ∧ RuleIs n v ∧ Below w.heap.size w w' := by
  rcases kind_five n with hk | hk | hk | hk | hk
  · have R : Box (RuleIs n (.iface 98 (.agg #[]))) := box ⟨_, _, _, rfl, form1_any n hk, fun k w => by rfl, fun a w => by rfl⟩
    have HK := box hk
    clear hk
    go_enter Tryz.func57, Tryz.ntmps57
    go_wp2_with fail
    refine (mKind15_is hn HK).mono ?_; rintro e w1 ⟨rfl, hb1⟩
    have B1 := box hb1
    clear hb1
    go_wp2
    go_ret
    exact ⟨_, rfl, R.out, B1.out⟩
  · have R : Box (RuleIs n (.iface 99 (.agg #[]))) := box ⟨_, _, _, rfl, form2_any n hk, fun k w => by rfl, fun a w => by rfl⟩
    have HK := box hk
    clear hk
    go_enter Tryz.func57, Tryz.ntmps57
    go_wp2_with fail
    refine (mKind15_is hn HK).mono ?_; rintro e w1 ⟨rfl, hb1⟩
    have B1 := box hb1
    clear hb1
    go_wp2
    go_ret
    exact ⟨_, rfl, R.out, B1.out⟩
  · have R : Box (RuleIs n (.iface 101 (.agg #[.int .i64 3]))) := box ⟨_, _, _, rfl, form3_any n 3 (.inl rfl) hk, fun k w => by rfl, fun a w => by rfl⟩
    have HK := box hk
    clear hk
    go_enter Tryz.func57, Tryz.ntmps57
    go_wp2_with fail
    refine (mKind15_is hn HK).mono ?_; rintro e w1 ⟨rfl, hb1⟩
    have B1 := box hb1
    clear hb1
    go_wp2
    go_ret
    exact ⟨_, rfl, R.out, B1.out⟩
  · have R : Box (RuleIs n (.iface 101 (.agg #[.int .i64 4]))) := box ⟨_, _, _, rfl, form3_any n 4 (.inr rfl) hk, fun k w => by rfl, fun a w => by rfl⟩
    have HK := box hk
    clear hk
    go_enter Tryz.func57, Tryz.ntmps57
    go_wp2_with fail
    refine (mKind15_is hn HK).mono ?_; rintro e w1 ⟨rfl, hb1⟩
    have B1 := box hb1
    clear hb1
    go_wp2
    go_ret
    exact ⟨_, rfl, R.out, B1.out⟩
  · have R : Box (RuleIs n (.iface 102 (.agg #[]))) := box ⟨_, _, _, rfl, form0_any n hk, fun k w => by rfl, fun a w => by rfl⟩
    have HK := box hk
    clear hk
    go_enter Tryz.func57, Tryz.ntmps57
    go_wp2_with fail
    refine (mKind15_is hn HK).mono ?_; rintro e w1 ⟨rfl, hb1⟩
    have B1 := box hb1
    clear hb1
    go_wp2
    go_ret
    exact ⟨_, rfl, R.out, B1.out⟩
end
section
open Go.RowKit
/-- a rule's method, one string -/
theorem form_is {n x f : ByteArray} {q : Bool} {fn : Nat} {r : Value} {w : World} (h : FormIs n fn r) (hx : x.size ≤ 65000) (hq : Box (formF n x = f ∧ valueV n x = q)) :
    Calls Tryz.prog fn #[r, .string x] w fun e w' => e = .returned (.tuple #[.string f, .bool q]) ∧ Below w.heap.size w w' :=
  (h x w hx).mono fun e w' ⟨h1, h2⟩ => ⟨by rw [h1, hq.out.1, hq.out.2], h2⟩
theorem mSame_any (n x y : ByteArray) (w : World) (hn : n.size ≤ 65000) (hx : x.size ≤ 65000) (hy : y.size ≤ 65000) :
    Calls Tryz.prog 33 #[.string n, .string x, .string y] w fun e w' => e = .returned (.bool (sameV n x y)) ∧ Below w.heap.size w w' := by
  obtain ⟨f, hf⟩ : ∃ f, formF n x = f := ⟨_, rfl⟩
  obtain ⟨q, hq⟩ : ∃ q, valueV n x = q := ⟨_, rfl⟩
  have HQ := box (And.intro hf hq)
  obtain ⟨g, hg⟩ : ∃ f, formF n y = f := ⟨_, rfl⟩
  obtain ⟨p, hp⟩ : ∃ q, valueV n y = q := ⟨_, rfl⟩
  have HP := box (And.intro hg hp)
  have HS : Box (sameV n x y = (f.toList == g.toList)) := box (by
    rw [form_same, hf, hg]
    by_cases e : f = g
    · rw [e]; simp
    · rw [decide_eq_false e]; exact (beq_eq_false_iff_ne.2 (fun h => e (by rw [toList_data, toList_data] at h; rw [bs_of f, bs_of g, h]))).symm)
  clear hf hq hg hp
  go_enter Tryz.func33, Tryz.ntmps33
  go_wp2_with fail
  refine (ruleOf_any n _ hn).mono ?_; rintro e w1 ⟨v, rfl, ⟨T, r, fn, rfl, hF, hM, hC⟩, hb1⟩
  have B1 := box hb1
  have HF := box hF
  clear hb1 hF
  go_wp2_with fail
  refine (form_is HF.out hx HQ).mono ?_; rintro e w2 ⟨rfl, hb2⟩
  have B2 := box (B1.out.trans (hb2.mono B1.out.size))
  clear hb2
  go_wp2_with fail
  refine (form_is HF.out hy HP).mono ?_; rintro e w3 ⟨rfl, hb3⟩
  have B3 := box (B2.out.trans (hb3.mono B2.out.size))
  clear hb3
  go_wp2
  go_ret
  exact ⟨by rw [HS.out]; rfl, B3.out⟩
end
section
open Go.RowKit
def lowT (n : ByteArray) : Bool := tokL n.data.toList && decide (lowL n.data.toList = n.data.toList)
theorem lowTok_any (n : ByteArray) (z : Bool) (w : World) (hn : n.size ≤ 65000) (hz : Box (lowT n = z)) :
    Calls Tryz.prog 61 #[.string n] w fun e w' => e = .returned (.bool z) ∧ Below w.heap.size w w' := by
  obtain ⟨q, hq⟩ : ∃ q, tokL n.data.toList = q := ⟨_, rfl⟩
  obtain ⟨x, hx⟩ : ∃ x, bs (lowL n.data.toList) = x := ⟨_, rfl⟩
  obtain ⟨p, hp⟩ : ∃ p, (x.toList == n.toList) = p := ⟨_, rfl⟩
  have HZ : Box (z = (q && p)) := box (by
    rw [← hz.out]
    unfold lowT
    rw [hq, ← hp, ← hx, toList_bs, toList_data]
    congr 1
    by_cases e : lowL n.data.toList = n.data.toList
    · rw [decide_eq_true e, beq_iff_eq.2 e]
    · rw [decide_eq_false e, beq_eq_false_iff_ne.2 e])
  have HQ := box hq
  have HX := box hx
  have HM : Box (n.size ≤ maxLen) := box (by unfold maxLen; omega)
  have hn4 : n.size ≤ 4294967296 := by omega
  clear hq hx hz
  rw [HZ.out]
  clear HZ
  go_enter Tryz.func61, Tryz.ntmps61
  go_wp2_with fail
  refine (aToken_is HM.out HQ).mono ?_; rintro e w1 ⟨rfl, rfl⟩
  cases q with
  | false =>
    go_wp2
    go_ret
    exact ⟨rfl, Below.refl _ _⟩
  | true =>
    go_wp2_with fail
    refine (aLower_is hn4 HX).mono ?_; rintro e w2 ⟨rfl, hb2⟩
    have B2 := box hb2
    clear hb2
    go_wp2
    go_ret
    exact ⟨rfl, B2.out⟩
/-- the forms of the first j values -/
def inV (n : ByteArray) (V : List ByteArray) (j : Nat) : ByteArray → Bool := fun f => (List.range j).any fun i => decide (formF n (atS V i) = f)
theorem inV_more (n : ByteArray) (V : List ByteArray) (j : Nat) (f : ByteArray) : andS (inV n V j) (formF n (atS V j)) f = inV n V (j + 1) f := by
  unfold andS inV
  rw [List.range_succ, List.any_append]
  simp only [List.any_cons, List.any_nil, Bool.or_false]
  congr 1
  exact decide_eq_decide.2 ⟨Eq.symm, Eq.symm⟩
theorem any_not_all {l : List Nat} {p q : Nat → Bool} (h : ∀ i, p i = !q i) : l.all p = !l.any q := by
  induction l with
  | nil => rfl
  | cons a l ih => rw [List.all_cons, List.any_cons, ih, h, Bool.not_or]
theorem inV_at (n : ByteArray) (V : List ByteArray) (j : Nat) : newV n V j j = !inV n V j (formF n (atS V j)) := by
  unfold newV inV
  refine any_not_all fun i => ?_
  rw [form_same]
  congr 1
  exact decide_eq_decide.2 ⟨Eq.symm, Eq.symm⟩
def VaAx (n : ByteArray) (V : List ByteArray) (W : World) (b : Nat) (i : Value) (wr : World) : Prop :=
  ∃ j : Nat, i = .int .i64 j ∧ j ≤ V.length ∧ Box (valsV n V j = true) ∧ Box (SSet wr b j (inV n V j)) ∧ Box (Below W.heap.size W wr)
set_option maxHeartbeats 2000000 in
theorem validAx_any (n : ByteArray) (a : Option Addr) (c : Nat) (V : List ByteArray) (z : Bool) (w : World) (hn : n.size ≤ 65000) (hl : V.length ≤ 65536) (hz : Box (∀ i (hi : i < V.length), V[i].size ≤ 65000)) (hF : Box (Ss w a V)) (hv : Box (validA (n, V) = z)) :
    Calls Tryz.prog 36 #[.agg #[.string n, .slice a V.length c]] w fun e w' => e = .returned (.bool z) ∧ Below w.heap.size w w' := by
  obtain ⟨q, hq⟩ : ∃ q, lowT n = q := ⟨_, rfl⟩
  obtain ⟨p, hp⟩ : ∃ p, (decide (1 ≤ (V.length : Int)) && decide ((V.length : Int) ≤ 16)) = p := ⟨_, rfl⟩
  have HH : Box (headV n V = (q && p)) := box (by
    unfold headV
    rw [← hq, ← hp]
    unfold lowT
    rw [Bool.and_assoc (tokL n.data.toList && decide (lowL n.data.toList = n.data.toList))]
    congr 1
    congr 1
    · exact decide_eq_decide.2 (by omega)
    · exact decide_eq_decide.2 (by omega))
  have HQ := box hq
  have HP := box hp
  have B0 := box (below_new w (.cells #[.string n, .slice a V.length c] 42))
  have hC := C2.new (.string n) (.slice a V.length c) w 42
  clear hq hp
  go_enter Tryz.func36, Tryz.ntmps36
  go_wp2_with fail
  refine (lowTok_any n q _ hn HQ).mono ?_; rintro e w1 ⟨rfl, hb1⟩
  have C1 := box (hC.next hb1)
  have B1 := box (B0.out.trans (hb1.mono B0.out.size))
  clear hC hb1
  obtain ⟨⟨r0, r1⟩, _⟩ := C1.out
  cases q with
  | false =>
    have HZ : Box (z = false) := box (by rw [← hv.out]; unfold validA; rw [show headV (n, V).1 (n, V).2 = false from HH.out]; rfl)
    go_wp2
    go_ret
    exact ⟨by rw [HZ.out]; rfl, B1.out⟩
  | true =>
    go_wp2_with fail
    refine (from1_is HP).mono ?_; rintro e w2 ⟨rfl, rfl⟩
    cases p with
    | false =>
      have HZ : Box (z = false) := box (by rw [← hv.out]; unfold validA; rw [show headV (n, V).1 (n, V).2 = false from HH.out]; rfl)
      go_wp2
      go_ret
      exact ⟨by rw [HZ.out]; rfl, B1.out⟩
    | true =>
      have HZ : Box (valsV n V V.length = z) := box (by rw [← hv.out]; unfold validA; rw [show headV (n, V).1 (n, V).2 = true from HH.out]; rfl)
      go_wp2_with fail
      refine (ruleOf_any n _ hn).mono ?_; rintro e w3 ⟨v, rfl, ⟨T, r, fn, rfl, hFm, hM, hCf⟩, hb3⟩
      have B3 := box (B1.out.trans (hb3.mono B1.out.size))
      have HF := box hFm
      obtain ⟨⟨s0, s1⟩, _⟩ := C1.out.next hb3
      clear hb3 hFm r0 r1
      have hmm := makeMap15 w3
      obtain ⟨b, hb⟩ : ∃ b, w3.heap.size = b := ⟨_, rfl⟩
      have hwb : w.heap.size ≤ b := by rw [← hb]; exact B3.out.size
      have hM3 := below_new w3 (.map #[] 0)
      have S4 : Box (SSet (w3.alloc (.map #[] 0)) b 0 (inV n V 0)) := box (by
        have h := SSet.made w3
        rw [hb] at h
        exact h.same (fun s => rfl))
      have B4 := box (B3.out.trans (hM3.mono B3.out.size))
      have t0 := (hM3.cell (cell_lt s0)).trans s0
      have t1 := (hM3.cell (cell_lt s1)).trans s1
      rw [hb] at hmm
      have HB := box hb
      clear hM3 s0 s1 hb
      go_wp2
      go_loopw [27] (fun i wr => VaAx n V w b i wr) (fun i _ => V.length - (intOf i).toNat)
      case atStart => exact ⟨0, rfl, Nat.zero_le _, box rfl, S4, B4⟩
      case round =>
        obtain ⟨j, rfl, hj, HO, hS, hB⟩ := hrel
        clear t0 t1
        by_cases hlt : j < V.length
        · obtain ⟨g, off, rfl, c0⟩ := (hF.out.below hB.out) j hlt
          have hs1 := hz.out j hlt
          have hat := atS_is hlt
          have hno := inV_at n V j
          have hmo := valsV_more n V j
          obtain ⟨x, hx⟩ : ∃ x, V[j] = x := ⟨_, rfl⟩
          rw [hx] at c0 hs1 hat
          rw [hat] at hno hmo
          obtain ⟨f, hf⟩ : ∃ f, formF n x = f := ⟨_, rfl⟩
          obtain ⟨p, hp⟩ : ∃ p, valueV n x = p := ⟨_, rfl⟩
          obtain ⟨d, hd⟩ : ∃ d, inV n V j f = d := ⟨_, rfl⟩
          rw [hf, hd] at hno
          rw [hp, hno] at hmo
          have HMO := box hmo
          have HFP := box (And.intro hf hp)
          have HD := box hd
          have HSM : Box (f.size ≤ maxLen) := box (by
            have := form_size (n := n) hs1
            rw [hf] at this
            unfold maxLen; omega)
          have HJM : Box (j < maxLen) := box (by unfold maxLen; omega)
          have HIN : Box (∀ g, andS (inV n V j) f g = inV n V (j + 1) g) := box (fun g => by rw [← hf, ← hat]; exact inV_more n V j g)
          have hw1 := hS.out.lt
          clear hno hmo hf hp hd hat hx
          go_wp2_with fail
          refine (form_is HF.out hs1 HFP).mono ?_; rintro e w5 ⟨rfl, hb5⟩
          have S5 := box (hS.out.below hb5 hw1)
          have B5 := box (hB.out.trans (hb5.mono (Nat.le_trans hwb (Nat.le_of_lt hw1))))
          clear hb5 c0
          cases p with
          | false =>
            have HZ2 : Box (z = false) := box (by
              rw [← HZ.out]
              exact vals_no hlt (by
                have := HMO.out
                rw [valsV_more, HO.out] at this
                simpa using this))
            go_wp2
            go_ret
            exact ⟨by rw [HZ2.out]; rfl, B5.out⟩
          | true =>
            go_wp2_with fail
            refine (add_any b j (inV n V j) f d _ HSM.out HJM.out S5 HD).mono ?_; rintro e w6 ⟨rfl, hS6, hb6⟩
            have S6 := box (hS6.same HIN.out)
            have B6 := box (B5.out.trans (hb6.mono hwb))
            clear hS6 hb6
            cases d with
            | true =>
              have HZ2 : Box (z = false) := box (by
                rw [← HZ.out]
                exact vals_no hlt (by
                  have := HMO.out
                  rw [valsV_more, HO.out] at this
                  simpa using this))
              go_wp2
              go_ret
              exact ⟨by rw [HZ2.out]; rfl, B6.out⟩
            | false =>
              have HO2 : Box (valsV n V (j + 1) = true) := box (by rw [HMO.out, HO.out]; rfl)
              go_wp2
              go_roundw
              case rel => exact ⟨j + 1, by go_num, by omega, HO2, S6, B6⟩
              case measure => simp [intOf]; omega
        · obtain rfl : j = V.length := by omega
          have HZ2 : Box (z = true) := box (by rw [← HZ.out]; exact HO.out)
          go_wp2
          go_ret
          exact ⟨by rw [HZ2.out]; rfl, hB.out⟩
/-- the names of the first j axes -/
def inA (L : List AX) (j : Nat) : ByteArray → Bool := fun x => (List.range j).any fun i => decide ((atA L i).1 = x)
theorem inA_more (L : List AX) (j : Nat) (x : ByteArray) : andS (inA L j) (atA L j).1 x = inA L (j + 1) x := by
  unfold andS inA
  rw [List.range_succ, List.any_append]
  simp only [List.any_cons, List.any_nil, Bool.or_false]
  congr 1
  exact decide_eq_decide.2 ⟨Eq.symm, Eq.symm⟩
theorem inA_at (L : List AX) (j : Nat) : newA L j j = !inA L j (atA L j).1 := by
  unfold newA inA
  refine any_not_all fun i => ?_
  by_cases e : (atA L j).1 = (atA L i).1
  · simp [e]
  · rw [decide_eq_true e, decide_eq_false (fun h => e h.symm)]; rfl
def VaLi (L : List AX) (W : World) (i : Value) (wr : World) : Prop :=
  ∃ j : Nat, i = .int .i64 j ∧ j ≤ L.length ∧ Box (axesV L j = true) ∧ Box (SSet wr W.heap.size j (inA L j)) ∧ Box (Below W.heap.size W wr)
set_option maxHeartbeats 2000000 in
theorem mValid_any (a : Option Addr) (cap : Nat) (L : List AX) (w : World) (hl : L.length ≤ 65536) (hz : Box (smallA L)) (hF : Box (Axs w a L)) :
    Calls Tryz.prog 20 #[.slice a L.length cap] w fun e w' => e = .returned (.bool (validX L)) ∧ Below w.heap.size w w' := by
  obtain ⟨z, hv⟩ : ∃ z, validX L = z := ⟨_, rfl⟩
  obtain ⟨p, hp⟩ : ∃ p, (decide (1 ≤ (L.length : Int)) && decide ((L.length : Int) ≤ 4)) = p := ⟨_, rfl⟩
  have HV : Box (z = (p && axesV L L.length)) := box (by
    rw [← hv, ← hp]
    unfold validX
    congr 1
    congr 1
    · exact decide_eq_decide.2 (by omega)
    · exact decide_eq_decide.2 (by omega))
  have HP := box hp
  rw [hv]
  clear hp hv
  have hmm := makeMap15 w
  have S1 : Box (SSet (w.alloc (.map #[] 0)) w.heap.size 0 (inA L 0)) := box ((SSet.made w).same (fun s => rfl))
  have B1 := box (below_new w (.map #[] 0))
  go_enter Tryz.func20, Tryz.ntmps20
  go_wp2_with fail
  refine (from1_is HP).mono ?_; rintro e w1 ⟨rfl, rfl⟩
  cases p with
  | false =>
    go_wp2
    go_ret
    exact ⟨by rw [HV.out]; rfl, Below.refl _ _⟩
  | true =>
    have HZ : Box (axesV L L.length = z) := box (by rw [HV.out]; rfl)
    clear HV
    go_wp2
    go_loopw [13] (fun i wr => VaLi L w i wr) (fun i _ => L.length - (intOf i).toNat)
    case atStart => exact ⟨0, rfl, Nat.zero_le _, box rfl, S1, B1⟩
    case round =>
      obtain ⟨j, rfl, hj, HO, hS, hB⟩ := hrel
      by_cases hlt : j < L.length
      · obtain ⟨g, off, u, rfl, c0, c1, b, cc, rfl, hss, _⟩ := (hF.out.below hB.out) j hlt
        obtain ⟨z1, z2, z3⟩ := hz.out j hlt
        have hat := atA_is hlt
        have hno := inA_at L j
        have hmo := axesV_more L j
        have hin := inA_more L j
        obtain ⟨⟨nm, V⟩, hx⟩ : ∃ x, L[j] = x := ⟨_, rfl⟩
        rw [hx] at hat
        have e1 : L[j].1 = nm := by rw [hx]
        have e2 : L[j].2 = V := by rw [hx]
        rw [e1] at c0 z1
        have z4 : ∀ i (hi : i < V.length), V[i].size ≤ 65000 := fun i hi => by subst e2; exact z3 i hi
        clear z3
        rw [e2] at c1 z2 hss
        rw [hat] at hno hmo hin
        simp only at hno hin
        obtain ⟨p, hp⟩ : ∃ p, validA (nm, V) = p := ⟨_, rfl⟩
        obtain ⟨d, hd⟩ : ∃ d, inA L j nm = d := ⟨_, rfl⟩
        rw [hd] at hno
        rw [hp, hno] at hmo
        have HMO := box hmo
        have HPV := box hp
        have HD := box hd
        have HIN := box hin
        have HSM : Box (nm.size ≤ maxLen) := box (by unfold maxLen; omega)
        have HJM : Box (j < maxLen) := box (by unfold maxLen; omega)
        have HZ4 := box z4
        have hw1 := hS.out.lt
        have BN := box (below_new wr (.cells #[.string nm, .slice b V.length cc] 42))
        have hC := C2.new (.string nm) (.slice b V.length cc) wr 42
        have HSS := box (hss.below BN.out)
        clear hno hmo hp hd hin hat hx e1 e2 z4 hss
        go_wp2_with fail
        refine (validAx_any nm b cc V p _ z1 z2 HZ4 HSS HPV).mono ?_; rintro e w5 ⟨rfl, hb5⟩
        have hb6 := BN.out.trans (hb5.mono BN.out.size)
        have S5 := box (hS.out.below hb6 hw1)
        have B5 := box (hB.out.trans (hb6.mono (Nat.le_of_lt hw1)))
        obtain ⟨⟨r0, r1⟩, _⟩ := hC.next hb5
        clear hb5 hb6 c0 c1 hC
        cases p with
        | false =>
          have HZ2 : Box (z = false) := box (by
            rw [← HZ.out]
            exact axes_no hlt (by
              have := HMO.out
              rw [axesV_more, HO.out] at this
              simpa using this))
          go_wp2
          go_ret
          exact ⟨by rw [HZ2.out]; rfl, B5.out⟩
        | true =>
          go_wp2_with fail
          refine (add_any w.heap.size j (inA L j) nm d _ HSM.out HJM.out S5 HD).mono ?_; rintro e w6 ⟨rfl, hS6, hb6⟩
          have S6 := box (hS6.same HIN.out)
          have B6 := box (B5.out.trans hb6)
          clear hS6 hb6 r0 r1
          cases d with
          | true =>
            have HZ2 : Box (z = false) := box (by
              rw [← HZ.out]
              exact axes_no hlt (by
                have := HMO.out
                rw [axesV_more, HO.out] at this
                simpa using this))
            go_wp2
            go_ret
            exact ⟨by rw [HZ2.out]; rfl, B6.out⟩
          | false =>
            have HO2 : Box (axesV L (j + 1) = true) := box (by rw [HMO.out, HO.out]; rfl)
            go_wp2
            go_roundw
            case rel => exact ⟨j + 1, by go_num, by omega, HO2, S6, B6⟩
            case measure => simp [intOf]; omega
      · obtain rfl : j = L.length := by omega
        have HZ2 : Box (z = true) := box (by rw [← HZ.out]; exact HO.out)
        go_wp2
        go_ret
        exact ⟨by rw [HZ2.out]; rfl, hB.out⟩
end
section
open Go.RowKit
theorem byte_eqs {c d : UInt8} : ((c.toNat : Int) == (d.toNat : Int)) = !(c != d) := by
  have := byte_neq (c := c) (d := d)
  rw [← this]
  show _ = !(!((c.toNat : Int) == (d.toNat : Int)))
  rw [Bool.not_not]
theorem mayStand_any (c : UInt8) (w : World) :
    Calls Tryz.prog 69 #[.int .u8 (c.toNat : Int)] w fun e w' => e = .returned (.bool (plainC c)) ∧ w = w' := by
  have e32 : (c != 32) = !((c.toNat : Int) == 32) := by rw [show ((32 : Int)) = ((32 : UInt8).toNat : Int) from rfl, byte_eqs, Bool.not_not]
  have e9 : (c != 9) = !((c.toNat : Int) == 9) := by rw [show ((9 : Int)) = ((9 : UInt8).toNat : Int) from rfl, byte_eqs, Bool.not_not]
  have e40 : (c != 40) = !((c.toNat : Int) == 40) := by rw [show ((40 : Int)) = ((40 : UInt8).toNat : Int) from rfl, byte_eqs, Bool.not_not]
  have e41 : (c != 41) = !((c.toNat : Int) == 41) := by rw [show ((41 : Int)) = ((41 : UInt8).toNat : Int) from rfl, byte_eqs, Bool.not_not]
  have e44 : (c != 44) = !((c.toNat : Int) == 44) := by rw [show ((44 : Int)) = ((44 : UInt8).toNat : Int) from rfl, byte_eqs, Bool.not_not]
  have e34 : (c != 34) = !((c.toNat : Int) == 34) := by rw [show ((34 : Int)) = ((34 : UInt8).toNat : Int) from rfl, byte_eqs, Bool.not_not]
  obtain ⟨q, hq⟩ : ∃ q, plainC c = q := ⟨_, rfl⟩
  have HQ := box hq
  unfold plainC at hq
  rw [e32, e9, e40, e41, e44, e34] at hq
  rw [HQ.out]
  clear e32 e9 e40 e41 e44 e34
  rcases t32 : ((c.toNat : Int) == 32) with _ | _
  rotate_left
  · obtain rfl : q = false := by rw [← hq, t32]; simp
    clear hq
    go_enter Tryz.func69, Tryz.ntmps69
    go_wp2
    go_ret
    exact ⟨rfl, rfl⟩
  rcases t9 : ((c.toNat : Int) == 9) with _ | _
  rotate_left
  · obtain rfl : q = false := by rw [← hq, t32, t9]; simp
    clear hq
    go_enter Tryz.func69, Tryz.ntmps69
    go_wp2
    go_ret
    exact ⟨rfl, rfl⟩
  rcases t40 : ((c.toNat : Int) == 40) with _ | _
  rotate_left
  · obtain rfl : q = false := by rw [← hq, t32, t9, t40]; simp
    clear hq
    go_enter Tryz.func69, Tryz.ntmps69
    go_wp2
    go_ret
    exact ⟨rfl, rfl⟩
  rcases t41 : ((c.toNat : Int) == 41) with _ | _
  rotate_left
  · obtain rfl : q = false := by rw [← hq, t32, t9, t40, t41]; simp
    clear hq
    go_enter Tryz.func69, Tryz.ntmps69
    go_wp2
    go_ret
    exact ⟨rfl, rfl⟩
  rcases t44 : ((c.toNat : Int) == 44) with _ | _
  rotate_left
  · obtain rfl : q = false := by rw [← hq, t32, t9, t40, t41, t44]; simp
    clear hq
    go_enter Tryz.func69, Tryz.ntmps69
    go_wp2
    go_ret
    exact ⟨rfl, rfl⟩
  rcases t34 : ((c.toNat : Int) == 34) with _ | _
  rotate_left
  · obtain rfl : q = false := by rw [← hq, t32, t9, t40, t41, t44, t34]; simp
    clear hq
    go_enter Tryz.func69, Tryz.ntmps69
    go_wp2
    go_ret
    exact ⟨rfl, rfl⟩
  obtain rfl : q = true := by rw [← hq, t32, t9, t40, t41, t44, t34]; rfl
  clear hq
  go_enter Tryz.func69, Tryz.ntmps69
  go_wp2
  go_ret
  exact ⟨rfl, rfl⟩
theorem mayStand_is {c : UInt8} {b : Bool} {w : World} (h : Box (plainC c = b)) :
    Calls Tryz.prog 69 #[.int .u8 (c.toNat : Int)] w fun e w' => e = .returned (.bool b) ∧ w = w' :=
  (mayStand_any c w).mono fun e w' ⟨h1, h2⟩ => ⟨by rw [h1, h.out], h2⟩
/-- a byte that is written outside quoted strings -/
def writC (c : UInt8) : Bool := visI c.toNat && plainC c
theorem isWrit_any (c : UInt8) (w : World) :
    Calls Tryz.prog 80 #[.int .u8 (c.toNat : Int)] w fun e w' => e = .returned (.bool (writC c)) ∧ w = w' := by
  obtain ⟨q, hq⟩ : ∃ q, plainC c = q := ⟨_, rfl⟩
  have HQ := box hq
  have hv : writC c = (visI c.toNat && q) := by unfold writC; rw [hq]
  rw [hv]
  clear hq hv
  by_cases h1 : (33 : Int) ≤ (c.toNat : Int)
  · by_cases h2 : (c.toNat : Int) ≤ 126
    · have hv : visI c.toNat = true := by unfold visI; exact decide_eq_true ⟨h1, h2⟩
      rw [hv]
      clear hv
      go_enter Tryz.func80, Tryz.ntmps80
      go_wp2_with fail
      refine (mayStand_is HQ).mono ?_; rintro e w1 ⟨rfl, rfl⟩
      go_wp2
      go_ret
      exact ⟨rfl, rfl⟩
    · have hv : visI c.toNat = false := by unfold visI; exact decide_eq_false (fun h => h2 h.2)
      rw [hv]
      clear hv
      go_enter Tryz.func80, Tryz.ntmps80
      go_wp2
      go_ret
      exact ⟨rfl, rfl⟩
  · have hv : visI c.toNat = false := by unfold visI; exact decide_eq_false (fun h => h1 h.1)
    rw [hv]
    clear hv
    go_enter Tryz.func80, Tryz.ntmps80
    go_wp2
    go_ret
    exact ⟨rfl, rfl⟩
theorem isWrit_is {c : UInt8} {b : Bool} {w : World} (h : Box (writC c = b)) :
    Calls Tryz.prog 80 #[.int .u8 (c.toNat : Int)] w fun e w' => e = .returned (.bool b) ∧ w = w' :=
  (isWrit_any c w).mono fun e w' ⟨h1, h2⟩ => ⟨by rw [h1, h.out], h2⟩
/-- one or more bytes, all permitted -/
def conL (P : UInt8 → Bool) (l : List UInt8) : Bool := l.all P && !l.isEmpty
theorem con_more {P : UInt8 → Bool} {s : ByteArray} {k : Nat} (h : (s.data.toList.take k).all P = true) (hk : k < s.size) (hp : P s[k] = true) : (s.data.toList.take (k + 1)).all P = true := by
  rw [take_snoc s k hk, List.all_append, h]; simpa using hp
theorem con_no {P : UInt8 → Bool} {s : ByteArray} {k : Nat} (hk : k < s.size) (hp : P s[k] = false) : conL P s.data.toList = false := by
  have hl : k < s.data.toList.length := by simpa using hk
  have : s.data.toList.all P = false := by rw [List.all_eq_false]; exact ⟨s.data.toList[k], List.getElem_mem hl, by rw [show s.data.toList[k] = s[k] from rfl, hp]; simp⟩
  unfold conL; rw [this]; rfl
theorem con_end {P : UInt8 → Bool} {s : ByteArray} (h : (s.data.toList.take s.size).all P = true) : conL P s.data.toList = !(s.toList.isEmpty) := by
  rw [List.take_of_length_le (by simp)] at h
  unfold conL; rw [h, toList_data]; rfl
theorem conRead_any (s : ByteArray) (z : Bool) (w : World) (hs : s.size ≤ 65000) (hz : Box (conL plainC s.data.toList = z)) :
    Calls Tryz.prog 68 #[.string s, .func (.func 69) #[] #[]] w fun e w' => e = .returned (.bool z) ∧ w = w' := by
  go_enter Tryz.func68, Tryz.ntmps68
  go_wp2
  go_loop [8] (fun i => ∃ k : Nat, i = .int .i64 k ∧ k ≤ s.size ∧ Box ((s.data.toList.take k).all plainC = true)) (fun i => s.size - (intOf i).toNat)
  case atStart => exact ⟨0, rfl, Nat.zero_le _, box rfl⟩
  case round =>
    obtain ⟨k, rfl, hk, HA⟩ := hrel
    by_cases hlt : k < s.size
    · have hki : (k : Int) < (s.size : Int) := by omega
      obtain ⟨c, hc⟩ : ∃ c, s[k] = c := ⟨_, rfl⟩
      obtain ⟨q, hq⟩ : ∃ q, plainC c = q := ⟨_, rfl⟩
      have HQ := box hq
      cases q with
      | true =>
        have HN := box (con_more HA.out hlt (by rw [hc, hq]))
        clear hq
        go_wp2_with fail
        refine (mayStand_is HQ).mono ?_; rintro e w1 ⟨rfl, rfl⟩
        go_wp2
        go_round
        case rel => exact ⟨k + 1, by go_num, hlt, HN⟩
        case measure => simp [intOf]; omega
      | false =>
        have HN : Box (z = false) := box (by rw [← hz.out]; exact con_no hlt (by rw [hc, hq]))
        clear hq
        go_wp2_with fail
        refine (mayStand_is HQ).mono ?_; rintro e w1 ⟨rfl, rfl⟩
        go_wp2
        go_ret
        exact ⟨by rw [HN.out]; rfl, rfl⟩
    · have hki : ¬ (k : Int) < (s.size : Int) := by omega
      obtain rfl : k = s.size := by omega
      have HN : Box (z = !(s.toList.isEmpty)) := box (by rw [← hz.out]; exact con_end HA.out)
      go_wp2
      go_ret
      exact ⟨by rw [HN.out]; rfl, rfl⟩
theorem conWrit_any (s : ByteArray) (z : Bool) (w : World) (hs : s.size ≤ 65000) (hz : Box (conL writC s.data.toList = z)) :
    Calls Tryz.prog 68 #[.string s, .func (.func 80) #[] #[]] w fun e w' => e = .returned (.bool z) ∧ w = w' := by
  go_enter Tryz.func68, Tryz.ntmps68
  go_wp2
  go_loop [8] (fun i => ∃ k : Nat, i = .int .i64 k ∧ k ≤ s.size ∧ Box ((s.data.toList.take k).all writC = true)) (fun i => s.size - (intOf i).toNat)
  case atStart => exact ⟨0, rfl, Nat.zero_le _, box rfl⟩
  case round =>
    obtain ⟨k, rfl, hk, HA⟩ := hrel
    by_cases hlt : k < s.size
    · have hki : (k : Int) < (s.size : Int) := by omega
      obtain ⟨c, hc⟩ : ∃ c, s[k] = c := ⟨_, rfl⟩
      obtain ⟨q, hq⟩ : ∃ q, writC c = q := ⟨_, rfl⟩
      have HQ := box hq
      cases q with
      | true =>
        have HN := box (con_more HA.out hlt (by rw [hc, hq]))
        clear hq
        go_wp2_with fail
        refine (isWrit_is HQ).mono ?_; rintro e w1 ⟨rfl, rfl⟩
        go_wp2
        go_round
        case rel => exact ⟨k + 1, by go_num, hlt, HN⟩
        case measure => simp [intOf]; omega
      | false =>
        have HN : Box (z = false) := box (by rw [← hz.out]; exact con_no hlt (by rw [hc, hq]))
        clear hq
        go_wp2_with fail
        refine (isWrit_is HQ).mono ?_; rintro e w1 ⟨rfl, rfl⟩
        go_wp2
        go_ret
        exact ⟨by rw [HN.out]; rfl, rfl⟩
    · have hki : ¬ (k : Int) < (s.size : Int) := by omega
      obtain rfl : k = s.size := by omega
      have HN : Box (z = !(s.toList.isEmpty)) := box (by rw [← hz.out]; exact con_end HA.out)
      go_wp2
      go_ret
      exact ⟨by rw [HN.out]; rfl, rfl⟩
theorem Unq15_none {s : ByteArray} {w : World} (hs : s.size ≤ 4294967296) (h : Box (unqL s.data.toList = none)) :
    Calls Tryz.prog 70 #[.string s] w fun e w' => e = .returned (.tuple #[.string ⟨#[]⟩, .bool false]) ∧ Below w.heap.size w w' :=
  (Unquote_any s w hs).mono fun e w' ⟨h1, h2⟩ => ⟨by rw [h1, h.out]; rfl, h2⟩
theorem Unq15_some {s x : ByteArray} {u : List UInt8} {w : World} (hs : s.size ≤ 4294967296) (h : Box (unqL s.data.toList = some u ∧ bs u = x)) :
    Calls Tryz.prog 70 #[.string s] w fun e w' => e = .returned (.tuple #[.string x, .bool true]) ∧ Below w.heap.size w w' :=
  (Unquote_any s w hs).mono fun e w' ⟨h1, h2⟩ => ⟨by rw [h1, h.out.1, ← h.out.2]; rfl, h2⟩
theorem read_con {l : List UInt8} (h : l ≠ []) : readV l = if conL plainC l = true then some l else unqL l := by
  unfold readV conL
  cases l with
  | nil => exact absurd rfl h
  | cons c r => simp
theorem word_con (l : List UInt8) : wordW l = if conL writC l = true then l else quoteL l := by
  have e : conL writC l = (visL l && l.all plainC) := by
    unfold conL visL writC allI
    rw [Bool.eq_iff_iff]
    simp only [Bool.and_eq_true, List.all_eq_true]
    constructor
    · rintro ⟨h1, h2⟩; exact ⟨⟨h2, fun c hc => (h1 c hc).1⟩, fun c hc => (h1 c hc).2⟩
    · rintro ⟨⟨h1, h2⟩, h3⟩; exact ⟨fun c hc => ⟨h2 c hc, h3 c hc⟩, h1⟩
  unfold wordW
  rw [e]
/-- the value that a piece stands for, in parts -/
def rdV (t : ByteArray) : Value := match readV t.data.toList with
  | some v => .tuple #[.string (bs v), .bool true]
  | none => .tuple #[.string ⟨#[]⟩, .bool false]
theorem parseVal_any (t : ByteArray) (v : Value) (w : World) (ht : t.size ≤ 65000) (hne : Box (t.data.toList ≠ [])) (hv : Box (rdV t = v)) :
    Calls Tryz.prog 43 #[.string t] w fun e w' => e = .returned v ∧ Below w.heap.size w w' := by
  obtain ⟨q, hq⟩ : ∃ q, conL plainC t.data.toList = q := ⟨_, rfl⟩
  have HQ := box hq
  have ht4 : t.size ≤ 4294967296 := by omega
  cases q with
  | true =>
    have HV : Box (v = .tuple #[.string t, .bool true]) := box (by
      rw [← hv.out]; unfold rdV; rw [read_con hne.out, hq, if_pos rfl]; show Value.tuple #[.string (bs t.data.toList), .bool true] = _; rw [← bs_of t])
    clear hq
    go_enter Tryz.func43, Tryz.ntmps43
    go_wp2_with fail
    refine (conRead_any t true _ ht HQ).mono ?_; rintro e w1 ⟨rfl, rfl⟩
    go_wp2
    go_ret2
    exact ⟨by rw [HV.out]; rfl, Below.refl _ _⟩
  | false =>
    cases hu : unqL t.data.toList with
    | none =>
      have HV : Box (v = .tuple #[.string ⟨#[]⟩, .bool false]) := box (by
        rw [← hv.out]; unfold rdV; rw [read_con hne.out, hq, if_neg (by simp), hu])
      have HU := box hu
      clear hq hu
      go_enter Tryz.func43, Tryz.ntmps43
      go_wp2_with fail
      refine (conRead_any t false _ ht HQ).mono ?_; rintro e w1 ⟨rfl, rfl⟩
      go_wp2_with fail
      refine (Unq15_none ht4 HU).mono ?_; rintro e w2 ⟨rfl, hb2⟩
      have B2 := box hb2
      clear hb2
      go_wp2
      go_ret2
      exact ⟨by rw [HV.out]; rfl, B2.out⟩
    | some u =>
      have HV : Box (v = .tuple #[.string (bs u), .bool true]) := box (by
        rw [← hv.out]; unfold rdV; rw [read_con hne.out, hq, if_neg (by simp), hu])
      obtain ⟨x, hx⟩ : ∃ x, bs u = x := ⟨_, rfl⟩
      have HU : Box (unqL t.data.toList = some u ∧ bs u = x) := box ⟨hu, hx⟩
      rw [hx] at HV
      clear hq hu hx
      go_enter Tryz.func43, Tryz.ntmps43
      go_wp2_with fail
      refine (conRead_any t false _ ht HQ).mono ?_; rintro e w1 ⟨rfl, rfl⟩
      go_wp2_with fail
      refine (Unq15_some ht4 HU).mono ?_; rintro e w2 ⟨rfl, hb2⟩
      have B2 := box hb2
      clear hb2
      go_wp2
      go_ret2
      exact ⟨by rw [HV.out]; rfl, B2.out⟩
theorem formatVal_any (t x : ByteArray) (w : World) (ht : t.size ≤ 65000) (hv : Box (bs (wordW t.data.toList) = x)) :
    Calls Tryz.prog 53 #[.string t] w fun e w' => e = .returned (.string x) ∧ Below w.heap.size w w' := by
  obtain ⟨q, hq⟩ : ∃ q, conL writC t.data.toList = q := ⟨_, rfl⟩
  have HQ := box hq
  have ht4 : t.size ≤ 1073741824 := by omega
  cases q with
  | true =>
    have HV : Box (x = t) := box (by rw [← hv.out, word_con, hq, if_pos rfl, ← bs_of t])
    clear hq
    go_enter Tryz.func53, Tryz.ntmps53
    go_wp2_with fail
    refine (conWrit_any t true _ ht HQ).mono ?_; rintro e w1 ⟨rfl, rfl⟩
    go_wp2
    go_ret
    exact ⟨by rw [HV.out]; rfl, Below.refl _ _⟩
  | false =>
    have HV : Box (bs (quoteL t.data.toList) = x) := box (by rw [← hv.out, word_con, hq, if_neg (by simp)])
    clear hq
    go_enter Tryz.func53, Tryz.ntmps53
    go_wp2_with fail
    refine (conWrit_any t false _ ht HQ).mono ?_; rintro e w1 ⟨rfl, rfl⟩
    go_wp2_with fail
    refine (aQuote_is ht4 HV).mono ?_; rintro e w2 ⟨rfl, hb2⟩
    have B2 := box hb2
    clear hb2
    go_wp2
    go_ret
    exact ⟨rfl, B2.out⟩
end
section
open Go.RowKit
theorem one_pre {s : ByteArray} {c : UInt8} (h : 1 ≤ s.size) : ((s.extract 0 1).toList == [c]) = decide (s.data.toList.head? = some c) := by
  have h2 : (s.extract 0 1).toList = s.data.toList.take 1 := by
    rw [toList_data, ByteArray.data_extract, Array.toList_extract, List.extract_eq_take_drop, List.drop_zero]
  rw [h2]
  have hl : s.data.toList.length = s.size := by simp
  cases e : s.data.toList with
  | nil => rw [e] at hl; simp only [List.length_nil] at hl; omega
  | cons d r =>
    rw [List.take_succ_cons, List.take_zero, List.head?_cons]
    by_cases q : d = c
    · subst q; simp
    · rw [decide_eq_false (by simpa using q)]; exact beq_eq_false_iff_ne.2 (by simpa using q)
theorem one_suf {s : ByteArray} {c : UInt8} (h : 1 ≤ s.size) : ((s.extract (s.size - 1) s.size).toList == [c]) = decide (s.data.toList.getLast? = some c) := by
  have hl : s.data.toList.length = s.size := by simp
  have h2 : (s.extract (s.size - 1) s.size).toList = s.data.toList.drop (s.size - 1) := by
    rw [toList_data, ByteArray.data_extract, Array.toList_extract, List.extract_eq_take_drop, List.take_of_length_le (by rw [List.length_drop, hl]; omega)]
  rw [h2, ← hl]
  have hne : s.data.toList ≠ [] := fun e => by rw [e] at hl; simp at hl; omega
  have e2 : s.data.toList.drop (s.data.toList.length - 1) = [s.data.toList.getLast hne] := by
    obtain ⟨a, d, ha⟩ : ∃ a d, s.data.toList = a ++ [d] := ⟨_, _, (List.dropLast_concat_getLast hne).symm⟩
    have hg : s.data.toList.getLast hne = d := by simp [ha]
    rw [hg, ha]; simp
  rw [e2, List.getLast?_eq_some_getLast hne]
  by_cases q : s.data.toList.getLast hne = c
  · rw [q]; simp
  · rw [decide_eq_false (by simpa using q)]; exact beq_eq_false_iff_ne.2 (by simpa using q)
theorem hasPre40_is {s : ByteArray} {b : Bool} {w : World} (hs : s.size ≤ 65000) (h : Box (decide (s.data.toList.head? = some 40) = b)) :
    Calls Tryz.prog 95 #[.string s, .string ⟨#[40]⟩] w fun e w' => e = .returned (.bool b) ∧ w = w' := by
  by_cases h1 : 1 ≤ s.size
  · have hi : (1 : Int) ≤ (s.size : Int) := by omega
    have ht := one_pre (c := 40) h1
    rw [h.out] at ht
    go_enter Tryz.func95, Tryz.ntmps95
    go_wp2
    go_ret
    exact ⟨rfl, rfl⟩
  · have hi : ¬ (1 : Int) ≤ (s.size : Int) := by omega
    have hb : b = false := by
      rw [← h.out]
      have : s.data.toList = [] := List.eq_nil_of_length_eq_zero (by have : s.data.toList.length = s.size := by simp
                                                                     omega)
      rw [this]; rfl
    subst hb
    go_enter Tryz.func95, Tryz.ntmps95
    go_wp2
    go_ret
    exact ⟨rfl, rfl⟩
theorem hasSuf41_is {s : ByteArray} {b : Bool} {w : World} (hs : s.size ≤ 65000) (h : Box (decide (s.data.toList.getLast? = some 41) = b)) :
    Calls Tryz.prog 96 #[.string s, .string ⟨#[41]⟩] w fun e w' => e = .returned (.bool b) ∧ w = w' := by
  by_cases h1 : 1 ≤ s.size
  · have hi : (1 : Int) ≤ (s.size : Int) := by omega
    have ht := one_suf (c := 41) h1
    obtain ⟨p, hp⟩ : ∃ p, s.size - 1 = p := ⟨_, rfl⟩
    have hpi : (s.size : Int) - 1 = (p : Int) := by omega
    have hps : (p : Int) ≤ (s.size : Int) := by omega
    rw [h.out, hp] at ht
    clear hp h1
    go_enter Tryz.func96, Tryz.ntmps96
    go_wp2
    go_ret
    exact ⟨rfl, rfl⟩
  · have hi : ¬ (1 : Int) ≤ (s.size : Int) := by omega
    have hb : b = false := by
      rw [← h.out]
      have : s.data.toList = [] := List.eq_nil_of_length_eq_zero (by have : s.data.toList.length = s.size := by simp
                                                                     omega)
      rw [this]; rfl
    subst hb
    go_enter Tryz.func96, Tryz.ntmps96
    go_wp2
    go_ret
    exact ⟨rfl, rfl⟩
/-- behind the '(' at the beginning -/
theorem scutPre40_yes {s : ByteArray} {w : World} (hs : s.size ≤ 65000) (h : Box (s.data.toList.head? = some 40)) :
    Calls Tryz.prog 65 #[.string s, .string ⟨#[40]⟩] w fun e w' => e = .returned (.tuple #[.string (s.extract 1 s.size), .bool true]) ∧ w = w' := by
  have HB : Box (decide (s.data.toList.head? = some 40) = true) := box (decide_eq_true h.out)
  have h1 : (1 : Int) ≤ (s.size : Int) := by
    have hl : s.data.toList.length = s.size := by simp
    have hh := h.out
    have : s.data.toList ≠ [] := fun e => by rw [e] at hh; cases hh
    have := List.length_pos_iff.2 this
    omega
  go_enter Tryz.func65, Tryz.ntmps65
  go_wp2_with fail
  refine (hasPre40_is hs HB).mono ?_; rintro e w1 ⟨rfl, rfl⟩
  go_wp2
  go_ret2
  exact ⟨rfl, rfl⟩
theorem cutPre40_yes {s : ByteArray} {w : World} (hs : s.size ≤ 65000) (h : Box (s.data.toList.head? = some 40)) :
    Calls Tryz.prog 40 #[.string s, .string ⟨#[40]⟩] w fun e w' => e = .returned (.tuple #[.string (s.extract 1 s.size), .bool true]) ∧ w = w' := by
  go_enter Tryz.func40, Tryz.ntmps40
  go_wp2_with fail
  refine (scutPre40_yes hs h).mono ?_; rintro e w1 ⟨rfl, rfl⟩
  go_wp2
  go_ret2
  exact ⟨rfl, rfl⟩
theorem scutPre40_no {s : ByteArray} {w : World} (hs : s.size ≤ 65000) (h : Box (s.data.toList.head? ≠ some 40)) :
    Calls Tryz.prog 65 #[.string s, .string ⟨#[40]⟩] w fun e w' => e = .returned (.tuple #[.string s, .bool false]) ∧ w = w' := by
  have HB : Box (decide (s.data.toList.head? = some 40) = false) := box (decide_eq_false h.out)
  go_enter Tryz.func65, Tryz.ntmps65
  go_wp2_with fail
  refine (hasPre40_is hs HB).mono ?_; rintro e w1 ⟨rfl, rfl⟩
  go_wp2
  go_ret2
  exact ⟨rfl, rfl⟩
theorem cutPre40_no {s : ByteArray} {w : World} (hs : s.size ≤ 65000) (h : Box (s.data.toList.head? ≠ some 40)) :
    Calls Tryz.prog 40 #[.string s, .string ⟨#[40]⟩] w fun e w' => e = .returned (.tuple #[.string s, .bool false]) ∧ w = w' := by
  go_enter Tryz.func40, Tryz.ntmps40
  go_wp2_with fail
  refine (scutPre40_no hs h).mono ?_; rintro e w1 ⟨rfl, rfl⟩
  go_wp2
  go_ret2
  exact ⟨rfl, rfl⟩
/-- ahead of the ')' at the end -/
theorem scutSuf41_yes {s : ByteArray} {w : World} (hs : s.size ≤ 65000) (h : Box (s.data.toList.getLast? = some 41)) :
    Calls Tryz.prog 66 #[.string s, .string ⟨#[41]⟩] w fun e w' => e = .returned (.tuple #[.string (s.extract 0 (s.size - 1)), .bool true]) ∧ w = w' := by
  have HB : Box (decide (s.data.toList.getLast? = some 41) = true) := box (decide_eq_true h.out)
  have h1 : (1 : Int) ≤ (s.size : Int) := by
    have hl : s.data.toList.length = s.size := by simp
    have hh := h.out
    have : s.data.toList ≠ [] := fun e => by rw [e] at hh; cases hh
    have := List.length_pos_iff.2 this
    omega
  obtain ⟨p, hp⟩ : ∃ p, s.size - 1 = p := ⟨_, rfl⟩
  have hpi : (s.size : Int) - 1 = (p : Int) := by omega
  have hps : (p : Int) ≤ (s.size : Int) := by omega
  have hpn : p ≤ s.size := by omega
  rw [hp]
  clear hp
  go_enter Tryz.func66, Tryz.ntmps66
  go_wp2_with fail
  refine (hasSuf41_is hs HB).mono ?_; rintro e w1 ⟨rfl, rfl⟩
  go_wp2
  go_ret2
  exact ⟨rfl, rfl⟩
theorem cutSuf41_yes {s : ByteArray} {w : World} (hs : s.size ≤ 65000) (h : Box (s.data.toList.getLast? = some 41)) :
    Calls Tryz.prog 41 #[.string s, .string ⟨#[41]⟩] w fun e w' => e = .returned (.tuple #[.string (s.extract 0 (s.size - 1)), .bool true]) ∧ w = w' := by
  go_enter Tryz.func41, Tryz.ntmps41
  go_wp2_with fail
  refine (scutSuf41_yes hs h).mono ?_; rintro e w1 ⟨rfl, rfl⟩
  go_wp2
  go_ret2
  exact ⟨rfl, rfl⟩
theorem scutSuf41_no {s : ByteArray} {w : World} (hs : s.size ≤ 65000) (h : Box (s.data.toList.getLast? ≠ some 41)) :
    Calls Tryz.prog 66 #[.string s, .string ⟨#[41]⟩] w fun e w' => e = .returned (.tuple #[.string s, .bool false]) ∧ w = w' := by
  have HB : Box (decide (s.data.toList.getLast? = some 41) = false) := box (decide_eq_false h.out)
  go_enter Tryz.func66, Tryz.ntmps66
  go_wp2_with fail
  refine (hasSuf41_is hs HB).mono ?_; rintro e w1 ⟨rfl, rfl⟩
  go_wp2
  go_ret2
  exact ⟨rfl, rfl⟩
theorem cutSuf41_no {s : ByteArray} {w : World} (hs : s.size ≤ 65000) (h : Box (s.data.toList.getLast? ≠ some 41)) :
    Calls Tryz.prog 41 #[.string s, .string ⟨#[41]⟩] w fun e w' => e = .returned (.tuple #[.string s, .bool false]) ∧ w = w' := by
  go_enter Tryz.func41, Tryz.ntmps41
  go_wp2_with fail
  refine (scutSuf41_no hs h).mono ?_; rintro e w1 ⟨rfl, rfl⟩
  go_wp2
  go_ret2
  exact ⟨rfl, rfl⟩
end
section
open Go.RowKit
theorem rJoin15_is {a : Option Addr} {n cap : Nat} {L : List ByteArray} {x : ByteArray} {w : World} (hn : Box (L.length = n)) (hl : Box (L.length ≤ 65536)) (hz : Box (∀ x ∈ L, x.size ≤ 65536)) (hF : Ss w a L) (h : Box (joinB L = x)) :
    Calls Tryz.prog 32 #[.slice a n cap] w fun e w' => e = .returned (.string x) ∧ w = w' := by
  have := (rJoin7_any a cap L w hl.out hz (box hF))
  rw [hn.out, h.out] at this; exact this
theorem rVis15_is {s : ByteArray} {b : Bool} {w : World} (hs : s.size ≤ maxLen) (h : Box (visL s.data.toList = b)) :
    Calls Tryz.prog 55 #[.string s] w fun e w' => e = .returned (.bool b) ∧ w = w' :=
  (rVisible_any s w hs).mono fun e w' ⟨h1, h2⟩ => ⟨by rw [h1, h.out], h2⟩
theorem plain_more {v : ByteArray} {m : Nat} (h : m < v.size) : (v.data.toList.take (m + 1)).all plainC = ((v.data.toList.take m).all plainC && plainC v[m]) := by
  have hl : m < v.data.toList.length := by simpa using h
  rw [take_next hl, List.all_append]
  have : v.data.toList[m] = v[m] := rfl
  rw [this]; simp
def WrRel (V : List ByteArray) (W : World) (s i : Value) (wr : World) : Prop :=
  ∃ (k : Nat) (x : ByteArray), i = .int .i64 k ∧ s = .string x ∧ k ≤ V.length ∧ x.data.toList = 40 :: joinW ((V.map fun v => v.data.toList).take k) ∧ x.size ≤ 2 + 3000 * k ∧ Below W.heap.size W wr
set_option maxHeartbeats 8000000 in
theorem rWritten_any (a : Option Addr) (cap : Nat) (V : List ByteArray) (w : World) (hl : V.length ≤ 65536) (hz : Box (∀ v ∈ V, v.size ≤ 1000)) (hF : Box (Ss w a V)) :
    Calls Tryz.prog 31 #[.slice a V.length cap] w fun e w' => e = .returned (.string (bs (writL (V.map fun v => v.data.toList)))) ∧ Below w.heap.size w w' := by
  go_enter Tryz.func31, Tryz.ntmps31
  go_wp2
  go_loopw [3, 4] (fun s i wr => WrRel V w s i wr) (fun _ i _ => V.length - (intOf i).toNat)
  case atStart => exact ⟨0, ⟨#[40]⟩, rfl, rfl, Nat.zero_le _, rfl, by decide, Below.refl _ _⟩
  case round =>
    obtain ⟨k, x, rfl, rfl, hk, hx, hxz, hbel⟩ := hrel
    have HX := box hx
    have BL := box hbel
    have hs0 := hbel.size
    clear hx hbel
    by_cases hlt : k < V.length
    · have hki : (k : Int) < (V.length : Int) := by omega
      obtain ⟨g, off, rfl, c0⟩ := (hF.out.below BL.out) k hlt
      obtain ⟨v, hv⟩ : ∃ v, V[k] = v := ⟨_, rfl⟩
      rw [hv] at c0
      have hvz : v.size ≤ 1000 := by rw [← hv]; exact hz.out _ (List.getElem_mem hlt)
      have hvm : v.size ≤ maxLen := by unfold maxLen; omega
      have hvq : v.size ≤ 1073741824 := by omega
      obtain ⟨y, hy⟩ : ∃ y : ByteArray, y.data.toList = (if k = 0 then x.data.toList else x.data.toList ++ [32]) ∧ (if 0 < k then x ++ (⟨#[32]⟩ : ByteArray) else x) = y ∧ y.size ≤ 2 + 3000 * k + 1 := by
        by_cases h0 : k = 0
        · exact ⟨x, by rw [if_pos h0], by rw [if_neg (by omega)], by omega⟩
        · exact ⟨x ++ ⟨#[32]⟩, by rw [if_neg h0]; simp [ByteArray.data_append], by rw [if_pos (by omega)], by rw [ByteArray.size_append]; show _ + 1 ≤ _; omega⟩
      have hyz := hy.2.2
      obtain ⟨ww, hww⟩ : ∃ ww, bs (wordW v.data.toList) = ww := ⟨_, rfl⟩
      have hwz : ww.size ≤ 2002 := by
        rw [← hww, bs_size]; have := word_len v.data.toList; have e : v.data.toList.length = v.size := by simp
        omega
      have HN : Box ((y ++ ww).data.toList = 40 :: joinW ((V.map fun v => v.data.toList).take (k + 1))) := box (by
        have hkm : k < (V.map fun v => v.data.toList).length := by simpa using hlt
        have hvk : (V.map fun v => v.data.toList)[k] = v.data.toList := by rw [List.getElem_map, hv]
        have hwd : ww.data.toList = wordW v.data.toList := by rw [← hww]; rfl
        rw [joinW_more hkm, hvk, ByteArray.data_append, Array.toList_append, hy.1, HX.out, hwd]
        split
        · rename_i h0; subst h0; simp [joinW]
        · simp)
      have HNZ : Box ((y ++ ww).size ≤ 2 + 3000 * (k + 1)) := box (by rw [ByteArray.size_append]; omega)
      have rA : ∀ w, (Op.stringOp .add x ⟨#[32]⟩).run Tryz.prog w = .ok (.string (x ++ ⟨#[32]⟩)) w := fun w => run_string_add_sum w _ _ (by show x.size + 1 ≤ 9223372036854775807; omega)
      have rB : ∀ w, (Op.stringOp .add y ww).run Tryz.prog w = .ok (.string (y ++ ww)) w := fun w => run_string_add_sum w _ _ (by show y.size + ww.size ≤ 9223372036854775807; omega)
      obtain ⟨b0, hb0⟩ : ∃ b, visL v.data.toList = b := ⟨_, rfl⟩
      have HB0 := box hb0
      have HW := box hww
      have HY : Box ((if 0 < k then x ++ (⟨#[32]⟩ : ByteArray) else x) = y) := box hy.2.1
      clear hv hy hb0 hww HX
      by_cases h0 : k = 0
      · subst h0
        rw [Nat.add_zero] at c0
        obtain rfl : x = y := by have := HY.out; rw [if_neg (by omega)] at this; exact this
        clear HY
        go_wp2_with fail
        refine (rVis15_is hvm HB0).mono ?_; rintro e w1 ⟨rfl, rfl⟩
        go_wp2
        go_loop [5, 6] (fun b i => ∃ m : Nat, i = .int .i64 m ∧ m ≤ v.size ∧ b = .bool (b0 && (v.data.toList.take m).all plainC)) (fun _ i => v.size - (intOf i).toNat)
        case atStart => exact ⟨0, rfl, Nat.zero_le _, by simp⟩
        case round =>
          obtain ⟨m, rfl, hm, rfl⟩ := hrel
          obtain ⟨bb, hbb⟩ : ∃ b, (b0 && (v.data.toList.take m).all plainC) = b := ⟨_, rfl⟩
          by_cases hmv : m < v.size
          · have hmi : (m : Int) < (v.size : Int) := by omega
            have hP := plain_more hmv
            rcases bb with _ | _
            · have HN2 : Box ((b0 && (v.data.toList.take (m + 1)).all plainC) = false) := box (by rw [hP, ← Bool.and_assoc, hbb]; rfl)
              rw [hbb]
              clear hbb hP
              go_wp2
              go_round
              case rel => exact ⟨m + 1, by go_num, by omega, by rw [HN2.out]⟩
              case measure => simp [intOf]; omega
            · obtain ⟨q, hq⟩ : ∃ q, plainC v[m] = q := ⟨_, rfl⟩
              have HN2 : Box ((b0 && (v.data.toList.take (m + 1)).all plainC) = q) := box (by rw [hP, ← Bool.and_assoc, hbb, hq]; rfl)
              have HQ := box hq
              rw [hbb]
              clear hbb hP hq
              go_wp2_with fail
              refine (rPlain_is HQ).mono ?_; rintro e w2 ⟨rfl, rfl⟩
              go_wp2
              go_round
              case rel => exact ⟨m + 1, by go_num, by omega, by rw [HN2.out]⟩
              case measure => simp [intOf]; omega
          · have hmi : ¬ (m : Int) < (v.size : Int) := by omega
            have hbv : (visL v.data.toList && v.data.toList.all plainC) = bb := by
              rw [HB0.out, ← hbb, List.take_of_length_le (by simp; omega)]
            rw [hbb]
            rcases bb with _ | _
            · have HQ : Box (bs (quoteL v.data.toList) = ww) := box (by rw [← HW.out]; unfold wordW; rw [if_neg (by rw [hbv]; simp)])
              clear hbb hbv
              go_wp2_with fail
              refine (rQuote_is hvq HQ).mono ?_; rintro e w2 ⟨rfl, hb2⟩
              have B2 := box (BL.out.trans (hb2.mono hs0))
              clear hb2
              go_wp2
              go_roundw
              case rel => exact ⟨0 + 1, x ++ ww, by go_num, rfl, by omega, HN.out, HNZ.out, B2.out⟩
              case measure => simp [intOf]; omega
            · have hvw : v = ww := by rw [← HW.out]; unfold wordW; rw [if_pos hbv]; rfl
              subst hvw
              clear hbb hbv
              go_wp2
              go_roundw
              case rel => exact ⟨0 + 1, x ++ v, by go_num, rfl, by omega, HN.out, HNZ.out, BL.out⟩
              case measure => simp [intOf]; omega
      · have hki0 : (0 : Int) < (k : Int) := by omega
        have hxy : x ++ (⟨#[32]⟩ : ByteArray) = y := by have := HY.out; rw [if_pos (by omega)] at this; exact this
        clear HY
        go_wp2_with fail
        refine (rVis15_is hvm HB0).mono ?_; rintro e w1 ⟨rfl, rfl⟩
        go_wp2
        go_loop [5, 6] (fun b i => ∃ m : Nat, i = .int .i64 m ∧ m ≤ v.size ∧ b = .bool (b0 && (v.data.toList.take m).all plainC)) (fun _ i => v.size - (intOf i).toNat)
        case atStart => exact ⟨0, rfl, Nat.zero_le _, by simp⟩
        case round =>
          obtain ⟨m, rfl, hm, rfl⟩ := hrel
          obtain ⟨bb, hbb⟩ : ∃ b, (b0 && (v.data.toList.take m).all plainC) = b := ⟨_, rfl⟩
          by_cases hmv : m < v.size
          · have hmi : (m : Int) < (v.size : Int) := by omega
            have hP := plain_more hmv
            rcases bb with _ | _
            · have HN2 : Box ((b0 && (v.data.toList.take (m + 1)).all plainC) = false) := box (by rw [hP, ← Bool.and_assoc, hbb]; rfl)
              rw [hbb]
              clear hbb hP
              go_wp2
              go_round
              case rel => exact ⟨m + 1, by go_num, by omega, by rw [HN2.out]⟩
              case measure => simp [intOf]; omega
            · obtain ⟨q, hq⟩ : ∃ q, plainC v[m] = q := ⟨_, rfl⟩
              have HN2 : Box ((b0 && (v.data.toList.take (m + 1)).all plainC) = q) := box (by rw [hP, ← Bool.and_assoc, hbb, hq]; rfl)
              have HQ := box hq
              rw [hbb]
              clear hbb hP hq
              go_wp2_with fail
              refine (rPlain_is HQ).mono ?_; rintro e w2 ⟨rfl, rfl⟩
              go_wp2
              go_round
              case rel => exact ⟨m + 1, by go_num, by omega, by rw [HN2.out]⟩
              case measure => simp [intOf]; omega
          · have hmi : ¬ (m : Int) < (v.size : Int) := by omega
            have hbv : (visL v.data.toList && v.data.toList.all plainC) = bb := by
              rw [HB0.out, ← hbb, List.take_of_length_le (by simp; omega)]
            rw [hbb]
            rcases bb with _ | _
            · have HQ : Box (bs (quoteL v.data.toList) = ww) := box (by rw [← HW.out]; unfold wordW; rw [if_neg (by rw [hbv]; simp)])
              clear hbb hbv
              go_wp2_with fail
              refine (rQuote_is hvq HQ).mono ?_; rintro e w2 ⟨rfl, hb2⟩
              have B2 := box (BL.out.trans (hb2.mono hs0))
              clear hb2
              go_wp2
              go_roundw
              case rel => exact ⟨k + 1, y ++ ww, by go_num, rfl, by omega, HN.out, HNZ.out, B2.out⟩
              case measure => simp [intOf]; omega
            · have hvw : v = ww := by rw [← HW.out]; unfold wordW; rw [if_pos hbv]; rfl
              subst hvw
              clear hbb hbv
              go_wp2
              go_roundw
              case rel => exact ⟨k + 1, y ++ v, by go_num, rfl, by omega, HN.out, HNZ.out, BL.out⟩
              case measure => simp [intOf]; omega
    · have hki : ¬ (k : Int) < (V.length : Int) := by omega
      have hxz2 : x.size ≤ 1000000000 := by omega
      have rC : ∀ w, (Op.stringOp .add x ⟨#[41]⟩).run Tryz.prog w = .ok (.string (x ++ ⟨#[41]⟩)) w := fun w => run_string_add_sum w _ _ (by show x.size + 1 ≤ 9223372036854775807; omega)
      have HE : Box (x ++ ⟨#[41]⟩ = bs (writL (V.map fun v => v.data.toList))) := box (by
        have h1 := HX.out
        rw [List.take_of_length_le (by simp; omega)] at h1
        apply ByteArray.ext
        apply Array.toList_inj.mp
        rw [ByteArray.data_append, Array.toList_append, h1]
        unfold writL
        simp [bs])
      go_wp2
      go_ret
      exact ⟨by rw [HE.out]; rfl, BL.out⟩
theorem rWritten_is {a : Option Addr} {cap : Nat} {V : List ByteArray} {x : ByteArray} {w : World} (hl : V.length ≤ 65536) (hz : Box (∀ v ∈ V, v.size ≤ 1000)) (hF : Ss w a V) (h : Box (bs (writL (V.map fun v => v.data.toList)) = x)) :
    Calls Tryz.prog 31 #[.slice a V.length cap] w fun e w' => e = .returned (.string x) ∧ Below w.heap.size w w' :=
  (rWritten_any a cap V w hl hz (box hF)).mono fun e w' ⟨h1, h2⟩ => ⟨by rw [h1, h.out], h2⟩
end
section
open Go.RowKit
def GpRel (T : Option (List (List UInt8))) (n : Nat) (w : World) (v r m : Value) (wr : World) : Prop :=
  ∃ (M : List (List UInt8)) (t : ByteArray) (b : Bool), r = .string t ∧ m = .bool b ∧ t.size ≤ n ∧ M.length + t.size + (if b then 1 else 0) ≤ n + 1 ∧ T = grpF (moreL 32 b t.data.toList) M ∧ OwnS wr w.heap.size v (M.map bs) ∧ Below w.heap.size w wr
def msr15 (m r : Value) : Nat := match m, r with | .bool true, .string t => t.size + 1 | _, _ => 0
theorem pc_eat {sep : UInt8} {l p r : List UInt8} {m : Bool} (h : pcL sep l = (p, r, m)) : p.length + r.length + (if m then 1 else 0) = l.length := by
  have key : ∀ (l : List UInt8) (s : Nat) (acc : List UInt8), (pcF sep s l acc).1.length + (pcF sep s l acc).2.1.length + (if (pcF sep s l acc).2.2 then 1 else 0) = acc.length + l.length := by
    intro l
    induction l with
    | nil => intro s acc; simp [pcF]
    | cons c r ih =>
      intro s acc
      rw [pcF_cons]
      split
      · simp; omega
      · rw [ih]; simp; omega
  have := key l 0 []
  rw [show pcF sep 0 l [] = (p, r, m) from h] at this
  simpa using this
set_option maxHeartbeats 4000000 in
theorem grpLoop_any (s m : ByteArray) (T : Option (List (List UInt8))) (w : World) (hs : s.size ≤ 65000) (hm : m.size ≤ 65000) (h1 : Box (s.data.toList.head? = some 40)) (h2 : Box ((s.extract 1 s.size).data.toList.getLast? = some 41)) (hx : Box ((s.extract 1 s.size).extract 0 ((s.extract 1 s.size).size - 1) = m)) (hT : Box (valsL m.data.toList [] = T)) :
    Calls Tryz.prog 22 #[.string s] w fun e w' => valW w w' T e := by
  obtain ⟨m1, hm1⟩ : ∃ m1, s.extract 1 s.size = m1 := ⟨_, rfl⟩
  have hz1 : m1.size ≤ 65000 := by rw [← hm1]; simp; omega
  have HM1 := box hm1
  rw [hm1] at h2 hx
  clear hm1
  have HT : Box (T = grpF (cutL 32 m.data.toList) []) := box (by rw [← hT.out]; exact vals_grp _ _ _ (Nat.le_refl _))
  go_enter Tryz.func22, Tryz.ntmps22
  go_wp2_with fail
  refine (cutPre40_yes hs h1).mono ?_; rintro e w1 ⟨rfl, rfl⟩
  rw [HM1.out]
  go_wp2_with fail
  refine (cutSuf41_yes hz1 h2).mono ?_; rintro e w1 ⟨rfl, rfl⟩
  rw [hx.out]
  go_wp2_with fail
  go_loopw [7, 8, 9] (fun v r b wr => GpRel T m.size w v r b wr) (fun _ r b _ => msr15 b r)
  case atStart => exact ⟨[], m, true, rfl, rfl, Nat.le_refl _, by simp, HT.out, OwnS.nil _ _, Below.refl _ _⟩
  case round =>
    obtain ⟨M, t, b, rfl, rfl, hts, hML, hTM, hOM, hbel⟩ := hrel
    have O0 := box hOM
    have BL := box hbel
    have HM := box hTM
    have hBw := hbel.size
    obtain ⟨av, cv, rfl, _, _⟩ := hOM.ss
    rw [List.length_map] at O0 ⊢
    clear hOM hbel hTM
    rcases b with _ | _
    · have HF : Box (T = some M) := box (by rw [HM.out]; rfl)
      clear hML
      go_wp2
      go_ret2
      exact ⟨_, by rw [HF.out]; rfl, by rw [HF.out]; exact O0.out, BL.out, fun h => by rw [HF.out] at h; cases h⟩
    · have ht6 : t.size ≤ 65000 := by omega
      obtain ⟨p, r, b2, hp⟩ : ∃ p r b2, pcL 32 t.data.toList = (p, r, b2) := ⟨_, _, _, rfl⟩
      have HV : Box (pcV 32 t.data.toList = .tuple #[.string (bs p), .string (bs r), .bool b2]) := box (by unfold pcV; rw [hp])
      have hcut : T = grpF (p :: moreL 32 b2 r) M := by
        have := cut_piece5 t.data.toList
        rw [hp] at this
        rw [HM.out]
        show grpF (cutL 32 t.data.toList) M = _
        rw [this]
      have hsz := pc_eat hp
      rw [show t.data.toList.length = t.size from by simp] at hsz
      have hrz : (bs r).size ≤ m.size := by rw [bs_size]; omega
      have hms : Box (msr15 (.bool b2) (.string (bs r)) < t.size + 1) := box (by
        cases b2
        · exact Nat.zero_lt_succ _
        · show (bs r).size + 1 < t.size + 1
          rw [bs_size]; simp at hsz; omega)
      have hpz : (bs p).size ≤ 65000 := by rw [bs_size]; omega
      have HCut := box hcut
      have HML := box hML
      have HSZ := box hsz
      have h32 : ((32 : UInt8).toNat : Int) = 32 := rfl
      clear hp hcut HM hML hsz
      by_cases hpe : p = []
      · have hpe2 : (bs p).toList.isEmpty = true := by rw [toList_bs, hpe]; rfl
        have HN : Box (T = grpF (moreL 32 b2 (bs r).data.toList) M) := box (by rw [HCut.out, hpe, grpF_skip, bs_toList])
        have HN2 : Box (M.length + (bs r).size + (if b2 then 1 else 0) ≤ m.size + 1) := box (by
          have h1 := HML.out
          have h2 := HSZ.out
          rw [bs_size]
          simp only [if_true] at h1
          omega)
        have hpb : (bs p) = ⟨#[]⟩ := by rw [hpe]; rfl
        rw [hpb] at HV
        clear HCut hpe hpe2 hpb hpz HML HSZ
        go_wp2_with fail
        refine (pieceCut_any t 32 _ ht6).mono ?_; rintro e w1 ⟨rfl, hb1⟩
        rw [HV.out]
        have O1 := box (own_below O0.out hb1)
        have B1 := box (BL.out.trans (hb1.mono hBw))
        clear hb1
        go_wp2
        go_roundw
        case rel => exact ⟨M, bs r, b2, rfl, rfl, hrz, HN2.out, HN.out, O1.out, B1.out⟩
        case measure => exact hms.out
      · have hpe2 : ((bs p).toList == []) = false := by
          rw [toList_bs]; exact beq_eq_false_iff_ne.2 hpe
        have hpe3 : (bs p).toList.isEmpty = false := by
          rw [toList_bs]
          cases p with
          | nil => exact absurd rfl hpe
          | cons c r => rfl
        have HNE : Box ((bs p).data.toList ≠ []) := box (by rw [bs_toList]; exact hpe)
        cases hu : readV p with
        | none =>
          have HF : Box (T = none) := box (by rw [HCut.out, grpF_bad hpe hu])
          have HR : Box (rdV (bs p) = .tuple #[.string ⟨#[]⟩, .bool false]) := box (by unfold rdV; rw [bs_toList, hu])
          clear HCut hpe hu HML HSZ
          go_wp2_with fail
          refine (pieceCut_any t 32 _ ht6).mono ?_; rintro e w1 ⟨rfl, hb1⟩
          rw [HV.out]
          have B1 := box (BL.out.trans (hb1.mono hBw))
          clear hb1
          go_wp2_with fail
          refine (parseVal_any (bs p) _ _ hpz HNE HR).mono ?_; rintro e w2 ⟨rfl, hb2⟩
          have B2 := box (B1.out.trans (hb2.mono B1.out.size))
          clear hb2
          go_wp2
          go_ret2
          exact valW_none HF B2.out
        | some u =>
          obtain ⟨x, hx⟩ : ∃ x, bs u = x := ⟨_, rfl⟩
          have HN : Box (T = grpF (moreL 32 b2 (bs r).data.toList) (M ++ [u])) := box (by rw [HCut.out, grpF_more hpe hu, bs_toList])
          have HR : Box (rdV (bs p) = .tuple #[.string x, .bool true]) := box (by unfold rdV; rw [bs_toList, hu, ← hx])
          have HX : Box ((M ++ [u]).map bs = M.map bs ++ [x]) := box (by rw [List.map_append, List.map_cons, List.map_nil, hx])
          have hm6 : Box ((M.map bs).length ≤ 65536) := box (by rw [List.length_map]; have := HML.out; omega)
          have HN2 : Box ((M ++ [u]).length + (bs r).size + (if b2 then 1 else 0) ≤ m.size + 1) := box (by
            have h1 := HML.out
            have h2 := HSZ.out
            have h3 : 1 ≤ p.length := by
              cases p with
              | nil => exact absurd rfl hpe
              | cons c r => simp
            rw [bs_size, List.length_append]
            simp only [if_true] at h1
            simp only [List.length_cons, List.length_nil]
            omega)
          clear HCut hpe hu hx HML HSZ
          go_wp2_with fail
          refine (pieceCut_any t 32 _ ht6).mono ?_; rintro e w1 ⟨rfl, hb1⟩
          rw [HV.out]
          have O1 := box (own_below O0.out hb1)
          have B1 := box (BL.out.trans (hb1.mono hBw))
          clear hb1
          go_wp2_with fail
          refine (parseVal_any (bs p) _ _ hpz HNE HR).mono ?_; rintro e w2 ⟨rfl, hb2⟩
          have O2 := box (own_below O1.out hb2)
          have B2 := box (B1.out.trans (hb2.mono B1.out.size))
          have hBw2 := B2.out.size
          clear hb2
          go_wp2_with (at_builtin; refine wpList_append_str _ rfl (.tmp 46) (.tmp 48) rfl w.heap.size _ (M.map bs) rfl ?a1 _ _ rfl x ?b1 ?c1 ?d1 ?_)
          case a1 => exact own_below O2.out (below_new _ _)
          case b1 => go_simp
          case c1 => exact hm6.out
          case d1 => simp; omega
          intro v3 w3 hO3 hb3
          have O3 := box hO3
          have B3 := box ((B2.out.alloc hBw2 _).trans hb3)
          clear hO3 hb3
          go_wp2
          go_roundw
          case rel => exact ⟨M ++ [u], bs r, b2, rfl, rfl, hrz, HN2.out, HN.out, by rw [HX.out]; exact O3.out, B3.out⟩
          case measure => exact hms.out
theorem grp_head {s : ByteArray} (h : s.data.toList.head? ≠ some 40) : valuesL s.data.toList = none := by
  unfold valuesL; rw [if_pos (.inr (.inl h))]
theorem grp_ext {s : ByteArray} : (s.extract 1 s.size).data.toList = s.data.toList.drop 1 := by
  rw [ByteArray.data_extract, Array.toList_extract, List.extract_eq_take_drop, List.take_of_length_le (by simp)]
theorem grp_tail {s : ByteArray} (h : (s.data.toList.drop 1).getLast? ≠ some 41) : valuesL s.data.toList = none := by
  unfold valuesL
  by_cases h2 : s.data.toList.length < 2
  · rw [if_pos (.inl h2)]
  · refine if_pos (.inr (.inr (fun e => h ?_)))
    rw [List.getLast?_drop, if_neg (by omega)]; exact e
theorem grp_in {s m : ByteArray} (h1 : s.data.toList.head? = some 40) (h2 : (s.data.toList.drop 1).getLast? = some 41) (hm : (s.extract 1 s.size).extract 0 ((s.extract 1 s.size).size - 1) = m) : valuesL s.data.toList = valsL m.data.toList [] := by
  have hl : ¬ s.data.toList.length < 2 := fun e => by rw [List.getLast?_drop, if_pos (by omega)] at h2; cases h2
  have hlast : s.data.toList.getLast? = some 41 := by
    rw [List.getLast?_drop, if_neg (by omega)] at h2; exact h2
  unfold valuesL
  rw [if_neg]
  · rw [← hm, ByteArray.data_extract, Array.toList_extract, List.extract_eq_take_drop, grp_ext, List.drop_zero, List.dropLast_eq_take]
    congr 2
    have : (s.extract 1 s.size).size = s.size - 1 := by simp
    rw [this, List.length_drop]; simp
  · rintro (q | q | q)
    · exact hl q
    · exact q h1
    · exact q hlast
theorem grpParse_any (s : ByteArray) (w : World) (hs : s.size ≤ 65000) :
    Calls Tryz.prog 22 #[.string s] w fun e w' => valW w w' (valuesL s.data.toList) e := by
  by_cases h1 : s.data.toList.head? = some 40
  · by_cases h2 : (s.data.toList.drop 1).getLast? = some 41
    · obtain ⟨m, hm⟩ : ∃ m, (s.extract 1 s.size).extract 0 ((s.extract 1 s.size).size - 1) = m := ⟨_, rfl⟩
      rw [grp_in h1 h2 hm]
      have hmz : m.size ≤ 65000 := by rw [← hm]; simp; omega
      exact grpLoop_any s m _ w hs hmz (box h1) (box (by rw [grp_ext]; exact h2)) (box hm) (box rfl)
    · have HV : Box (valuesL s.data.toList = none) := box (grp_tail h2)
      obtain ⟨m1, hm1⟩ : ∃ m1, s.extract 1 s.size = m1 := ⟨_, rfl⟩
      have hz1 : m1.size ≤ 65000 := by rw [← hm1]; simp; omega
      have H2 : Box (m1.data.toList.getLast? ≠ some 41) := box (by rw [← hm1, grp_ext]; exact h2)
      have H1 := box h1
      have HM1 := box hm1
      generalize valuesL s.data.toList = T at HV
      clear h1 h2 hm1
      go_enter Tryz.func22, Tryz.ntmps22
      go_wp2_with fail
      refine (cutPre40_yes hs H1).mono ?_; rintro e w1 ⟨rfl, rfl⟩
      rw [HM1.out]
      go_wp2_with fail
      refine (cutSuf41_no hz1 H2).mono ?_; rintro e w1 ⟨rfl, rfl⟩
      go_wp2
      go_ret2
      exact valW_none HV (Below.refl _ _)
  · have HV : Box (valuesL s.data.toList = none) := box (grp_head h1)
    have H1 := box h1
    generalize valuesL s.data.toList = T at HV
    clear h1
    by_cases h2 : s.data.toList.getLast? = some 41
    · have H2 := box h2
      obtain ⟨m1, hm1⟩ : ∃ m1, s.extract 0 (s.size - 1) = m1 := ⟨_, rfl⟩
      have HM1 := box hm1
      clear h2 hm1
      go_enter Tryz.func22, Tryz.ntmps22
      go_wp2_with fail
      refine (cutPre40_no hs H1).mono ?_; rintro e w1 ⟨rfl, rfl⟩
      go_wp2_with fail
      refine (cutSuf41_yes hs H2).mono ?_; rintro e w1 ⟨rfl, rfl⟩
      rw [HM1.out]
      go_wp2
      go_ret2
      exact valW_none HV (Below.refl _ _)
    · have H2 : Box (s.data.toList.getLast? ≠ some 41) := box h2
      clear h2
      go_enter Tryz.func22, Tryz.ntmps22
      go_wp2_with fail
      refine (cutPre40_no hs H1).mono ?_; rintro e w1 ⟨rfl, rfl⟩
      go_wp2_with fail
      refine (cutSuf41_no hs H2).mono ?_; rintro e w1 ⟨rfl, rfl⟩
      go_wp2
      go_ret2
      exact valW_none HV (Below.refl _ _)
/-- the words of the first k values -/
def wtB (V : List ByteArray) (k : Nat) : List ByteArray := (V.take k).map fun x => bs (wordW x.data.toList)
theorem wtB_len {V : List ByteArray} {k : Nat} (h : k ≤ V.length) : (wtB V k).length = k := by unfold wtB; rw [List.length_map, List.length_take, Nat.min_eq_left h]
def GfRel (V : List ByteArray) (W : World) (v i : Value) (wr : World) : Prop :=
  ∃ k : Nat, i = .int .i64 k ∧ k ≤ V.length ∧ OwnS wr W.heap.size v (wtB V k) ∧ Below W.heap.size W wr
theorem join0_any (a : Option Addr) (cap : Nat) (L : List ByteArray) (x : ByteArray) (w : World) (hl : L.length ≤ 65536) (hc : L.length ≤ cap) (hz : Box (∀ x ∈ L, x.size ≤ 65536)) (hF : Box (Ss w a L)) (hx : Box (joinSB L = x)) :
    Calls Tryz.prog 54 #[.slice a L.length cap, .string ⟨#[32]⟩] w fun e w' => e = .returned (.string x) ∧ Below w.heap.size w w' := by
  by_cases h0 : L.length = 0
  · have hL : L = [] := List.eq_nil_of_length_eq_zero h0
    subst hL
    refine (Jsp0_any a cap w).mono ?_; rintro e w1 ⟨rfl, rfl⟩
    exact ⟨by rw [← hx.out]; rfl, Below.refl _ _⟩
  · obtain ⟨q, off, rfl, c0⟩ := hF.out 0 (by omega)
    by_cases h1 : L.length = 1
    · obtain ⟨y, rfl⟩ := List.length_eq_one_iff.1 h1
      refine (Jsp1_any q off cap y w (by simpa using c0)).mono ?_; rintro e w1 ⟨rfl, rfl⟩
      refine ⟨?_, Below.refl _ _⟩
      have : joinSB [y] = y := by unfold joinSB; simp [joinSp, ← bs_of]
      rw [← hx.out, this]
    · refine (JspN_any q off cap L w (by omega) hl hc hz hF).mono ?_; rintro e w1 ⟨rfl, hb⟩
      exact ⟨by rw [hx.out], hb⟩
theorem join_any (a : Option Addr) (cap n : Nat) (L : List ByteArray) (x : ByteArray) (w : World) (hn : Box (L.length = n)) (hl : n ≤ 65536) (hc : n ≤ cap) (hz : Box (∀ x ∈ L, x.size ≤ 65536)) (hF : Box (Ss w a L)) (hx : Box (joinSB L = x)) :
    Calls Tryz.prog 54 #[.slice a n cap, .string ⟨#[32]⟩] w fun e w' => e = .returned (.string x) ∧ Below w.heap.size w w' := by
  have h := hn.out
  subst h
  exact join0_any a cap L x w hl hc hz hF hx
set_option maxHeartbeats 4000000 in
theorem grpFormat_any (a : Option Addr) (cap : Nat) (V : List ByteArray) (x : ByteArray) (w : World) (hl : V.length ≤ 20) (hz : Box (∀ v ∈ V, v.size ≤ 1000)) (hF : Box (Ss w a V)) (hx : Box (bs (writL (V.map fun v => v.data.toList)) = x)) :
    Calls Tryz.prog 29 #[.slice a V.length cap] w fun e w' => e = .returned (.string x) ∧ Below w.heap.size w w' := by
  go_enter Tryz.func29, Tryz.ntmps29
  go_wp2
  go_loopw [3, 8] (fun v i wr => GfRel V w v i wr) (fun _ i _ => V.length - (intOf i).toNat)
  case atStart => exact ⟨0, rfl, Nat.zero_le _, OwnS.nil _ _, Below.refl _ _⟩
  case round =>
    obtain ⟨k, rfl, hk, hO, hbel⟩ := hrel
    have O0 := box hO
    have BL := box hbel
    have hBw := hbel.size
    obtain ⟨av, cv, rfl, hss, hcv⟩ := hO.ss
    rw [wtB_len hk] at O0 hcv ⊢
    have SS := box hss
    clear hO hbel hss
    by_cases hlt : k < V.length
    · obtain ⟨g, off, rfl, c0⟩ := (hF.out.below BL.out) k hlt
      have hvz := hz.out V[k] (List.getElem_mem hlt)
      obtain ⟨y, hy⟩ : ∃ y, V[k] = y := ⟨_, rfl⟩
      obtain ⟨z, hzq⟩ : ∃ z, bs (wordW y.data.toList) = z := ⟨_, rfl⟩
      rw [hy] at c0 hvz
      have HZ := box hzq
      have hv6 : y.size ≤ 65000 := by omega
      have HX : Box (wtB V (k + 1) = wtB V k ++ [z]) := box (by
        unfold wtB
        rw [take_next hlt, List.map_append, List.map_cons, List.map_nil, hy, hzq])
      have hk6 : Box ((wtB V k).length ≤ 65536) := box (by rw [wtB_len hk]; omega)
      clear hy hzq
      go_wp2_with fail
      refine (formatVal_any y z _ hv6 HZ).mono ?_; rintro e w1 ⟨rfl, hb1⟩
      have O1 := box (own_below O0.out hb1)
      have B1 := box (BL.out.trans (hb1.mono hBw))
      have hBw1 := B1.out.size
      clear hb1 c0
      go_wp2_with (at_builtin; refine wpList_append_str _ rfl (.tmp 12) (.tmp 15) rfl w.heap.size _ (wtB V k) rfl ?a1 _ _ rfl z ?b1 ?c1 ?d1 ?_)
      case a1 => exact own_below O1.out (below_new _ _)
      case b1 => go_simp
      case c1 => exact hk6.out
      case d1 => simp; omega
      intro v3 w3 hO3 hb3
      have O3 := box hO3
      have B3 := box ((B1.out.alloc hBw1 _).trans hb3)
      clear hO3 hb3
      go_wp2
      go_roundw
      case rel => exact ⟨k + 1, by go_num, by omega, by rw [HX.out]; exact O3.out, B3.out⟩
      case measure => simp [intOf]; omega
    · obtain rfl : k = V.length := by omega
      obtain ⟨L, hL⟩ : ∃ L, wtB V V.length = L := ⟨_, rfl⟩
      have hLl : L.length = V.length := by rw [← hL]; exact wtB_len (Nat.le_refl _)
      have hLz : Box (∀ x ∈ L, x.size ≤ 65536) := box (fun x hx => by
        rw [← hL] at hx
        unfold wtB at hx
        rw [List.take_length] at hx
        obtain ⟨v, hv, rfl⟩ := List.mem_map.1 hx
        have h1 := hz.out v hv
        have h2 := word_len v.data.toList
        rw [bs_size]
        have : v.data.toList.length = v.size := by simp
        omega)
      obtain ⟨y, hy⟩ : ∃ y, joinSB L = y := ⟨_, rfl⟩
      have HY := box hy
      have hyl : y.data.toList = joinW (V.map fun v => v.data.toList) := by
        rw [← hy, ← hL, joinW_sp]
        unfold joinSB wtB
        rw [bs_toList, List.take_length, List.map_map, List.map_map]
        rfl
      have HE : Box ((⟨#[40]⟩ : ByteArray) ++ y ++ (⟨#[41]⟩ : ByteArray) = x) := box (by
        rw [← hx.out]
        unfold writL
        rw [← hyl, bs_of ((⟨#[40]⟩ : ByteArray) ++ y ++ (⟨#[41]⟩ : ByteArray))]
        rfl)
      have hyz : y.size ≤ 41000 := by
        have h1 := writ_len hl hz.out
        unfold writL at h1
        rw [← hyl] at h1
        simp at h1
        omega
      rw [hL] at SS
      have HLL := box hLl
      have hl6 : V.length ≤ 65536 := by omega
      clear hL hy hyl hLl
      clear O0
      go_wp2_with fail
      refine (join_any av cv V.length L y _ HLL hl6 hcv hLz SS HY).mono ?_; rintro e w2 ⟨rfl, hb2⟩
      have B2 := box (BL.out.trans (hb2.mono hBw))
      clear hb2
      go_wp2
      go_ret
      exact ⟨by rw [← HE.out]; rfl, B2.out⟩
end
end Go.Proofs.YtcnohcbhnldglaaGreat.Asc
