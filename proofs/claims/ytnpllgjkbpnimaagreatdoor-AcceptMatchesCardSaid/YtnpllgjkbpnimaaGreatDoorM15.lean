/- Merged texts: AccRef4 AccMat LisRef4 AccRef5 BldJoin LisMine AccFmt QvaLaid AccKeep. -/
import Derived.Test.YtnpllgjkbpnimaaGreatDoorM09
import Derived.Test.YtnpllgjkbpnimaaGreatDoorM10
import Derived.Test.YtnpllgjkbpnimaaGreatDoorM11
import Derived.Test.YtnpllgjkbpnimaaGreatDoorM12
import Derived.Test.YtnpllgjkbpnimaaGreatDoorM13
import Derived.Test.YtnpllgjkbpnimaaGreatDoorM14
import Derived.LaidMore
import Derived.Lib.LaidTab
set_option linter.unusedVariables false
set_option linter.unusedSimpArgs false
set_option maxRecDepth 100000
namespace Go.Proofs.YtnpllgjkbpnimaaGreatDoor.Asc
section
open Go.RowKit
theorem matchP_acc {r v : List UInt8} {m1 m2 : M} {ok is : Bool} (h1 : ofM (rangeL r) = m1) (h2 : (rangeL r).isSome = ok) (h3 : ofM (mediaL v) = m2) (h4 : (mediaL v).isSome = is) : matchP 1 r v = if (ok && is) = true then matchI m1 m2 else -1 := by
  unfold matchP
  rw [if_pos rfl, ← h2, ← h4, ← h1, ← h3]
  cases rangeL r with
  | none => rfl
  | some a =>
    cases mediaL v with
    | none => rfl
    | some b => rfl
theorem matchP_lan (r v : List UInt8) : matchP 2 r v = matchT r v := by unfold matchP; rw [if_neg (by omega), if_pos rfl]
theorem matchP_cod {k : Int} (h : k = 3 ∨ k = 4) (r v : List UInt8) : matchP k r v = if (tokL r && tokL v && decide (v ≠ [42])) = true then matchC k r v else -1 := by
  unfold matchP; rw [if_neg (by omega), if_neg (by omega), if_pos h]
theorem matchP_no {k : Int} (h1 : ¬ k = 1) (h2 : ¬ k = 2) (h3 : ¬ k = 3) (h4 : ¬ k = 4) (r v : List UInt8) : matchP k r v = -1 := by
  unfold matchP; rw [if_neg h1, if_neg h2, if_neg (by omega)]
theorem rMed13_is {s : ByteArray} {a b : ByteArray} {L : List F} {q : Bool} {w : World} (hs : s.size ≤ 65000) (h : Box (ofM (mediaL s.data.toList) = (a, b, L) ∧ (mediaL s.data.toList).isSome = q)) :
    Calls Tryz.prog 14 #[.string s] w fun e w' => ∃ p cap, e = .returned (.tuple #[.agg #[.string a, .string b, .slice p L.length cap], .bool q]) ∧ Fs w' p L ∧ Below w.heap.size w w' :=
  (rMedia_any s w hs).mono fun e w' ⟨v, h1, h2, h3⟩ => by
    rw [h.out.1] at h1 h2
    rw [h.out.2] at h1
    obtain ⟨p, cap, rfl, hF, _⟩ := h2.fs
    exact ⟨p, cap, h1, hF, h3⟩
theorem rmatch13_is {a b c d : ByteArray} {p q : Option Addr} {cp cq : Nat} {K L : List F} {i : Int} {w : World} (hk : Box (K.length ≤ 65536)) (hl : Box (L.length ≤ 65536))
    (hzK : Box (∀ i (hi : i < K.length), K[i].1.size ≤ 65536 ∧ K[i].2.size ≤ 65536)) (hzL : Box (∀ i (hi : i < L.length), L[i].1.size ≤ 65536 ∧ L[i].2.size ≤ 65536)) (hK : Fs w p K) (hL : Fs w q L) (h : Box (matchI (a, b, K) (c, d, L) = i)) :
    Calls Tryz.prog 15 #[.agg #[.string a, .string b, .slice p K.length cp], .agg #[.string c, .string d, .slice q L.length cq]] w fun e w' => e = .returned (.int .i64 i) ∧ Below w.heap.size w w' :=
  (rMatch_any a b c d p q cp cq K L w hk.out hl.out hzK hzL (box hK) (box hL)).mono fun e w' ⟨h1, h2⟩ => ⟨by rw [h1, h.out], h2⟩
set_option maxHeartbeats 1000000 in
theorem rMatch13_acc (r v : ByteArray) (w : World) (hr : r.size ≤ 20000) (hv : v.size ≤ 20000) :
    Calls Tryz.prog 6 #[.int .i64 1, .string r, .string v] w fun e w' => e = .returned (.int .i64 (matchP 1 r.data.toList v.data.toList)) ∧ Below w.heap.size w w' := by
  obtain ⟨⟨a, b, K⟩, h1⟩ : ∃ m, ofM (rangeL r.data.toList) = m := ⟨_, rfl⟩
  obtain ⟨ok, h2⟩ : ∃ q, (rangeL r.data.toList).isSome = q := ⟨_, rfl⟩
  obtain ⟨⟨c, d, L⟩, h3⟩ : ∃ m, ofM (mediaL v.data.toList) = m := ⟨_, rfl⟩
  obtain ⟨is, h4⟩ : ∃ q, (mediaL v.data.toList).isSome = q := ⟨_, rfl⟩
  have HV := box (matchP_acc h1 h2 h3 h4)
  obtain ⟨k1, k2, _, _⟩ := range_len h1
  obtain ⟨l1, l2, _, _⟩ := media_len h3
  have lK : Box (K.length ≤ 65536) := box (by omega)
  have lL : Box (L.length ≤ 65536) := box (by omega)
  have zK : Box (∀ i (hi : i < K.length), K[i].1.size ≤ 65536 ∧ K[i].2.size ≤ 65536) := box (fun i hi => by have := k2 i hi; omega)
  have zL : Box (∀ i (hi : i < L.length), L[i].1.size ≤ 65536 ∧ L[i].2.size ≤ 65536) := box (fun i hi => by have := l2 i hi; omega)
  have H1 := box (And.intro h1 h2)
  have H2 := box (And.intro h3 h4)
  have hr6 : r.size ≤ 65000 := by omega
  have hv6 : v.size ≤ 65000 := by omega
  clear h1 h2 h3 h4 k1 k2 l1 l2
  go_enter Tryz.func6, Tryz.ntmps6
  go_wp2_with fail
  refine (rRange_is hr6 H1).mono ?_; rintro e w1 ⟨p1, c1, rfl, hO1, hb1⟩
  obtain ⟨p9, c9, hv9, hF1, _⟩ := hO1.fs
  cases hv9
  have hnw := below_new w1 (.cells #[.string a, .string b, .slice p1 K.length c1] 33)
  have C1 := box (C3.new (.string a) (.string b) (.slice p1 K.length c1) w1 33)
  have F1 := box (hF1.below hnw)
  have B1 := box (hb1.trans (hnw.mono hb1.size))
  clear hO1 hF1 hb1 hnw
  go_wp2_with fail
  refine (rMed13_is hv6 H2).mono ?_; rintro e w2 ⟨p2, c2, rfl, hF2, hb2⟩
  have hnw := below_new w2 (.cells #[.string c, .string d, .slice p2 L.length c2] 33)
  have N1 := C1.out.next hb2
  have F2 := box ((F1.out.below hb2).below hnw)
  have G2 := box (hF2.below hnw)
  have B2 := box (B1.out.trans ((hb2.trans (hnw.mono hb2.size)).mono B1.out.size))
  have hne : w1.heap.size ≠ w2.heap.size := Nat.ne_of_lt N1.lt
  obtain ⟨⟨s0, s1, s2⟩, _⟩ := N1.next hnw
  obtain ⟨⟨r0, r1, r2⟩, _⟩ := N1
  clear hF2 hb2 hnw
  cases ok with
  | false =>
    have HR : Box (matchP 1 r.data.toList v.data.toList = -1) := box (by rw [HV.out]; rfl)
    go_wp2
    go_ret
    exact ⟨by rw [HR.out]; rfl, B2.out⟩
  | true =>
    cases is with
    | false =>
      have HR : Box (matchP 1 r.data.toList v.data.toList = -1) := box (by rw [HV.out]; rfl)
      go_wp2
      go_ret
      exact ⟨by rw [HR.out]; rfl, B2.out⟩
    | true =>
      have HR : Box (matchI (a, b, K) (c, d, L) = matchP 1 r.data.toList v.data.toList) := box (by rw [HV.out]; rfl)
      go_wp2_with fail
      refine (rmatch13_is lK lL zK zL F2.out G2.out HR).mono ?_; rintro e w3 ⟨rfl, hb3⟩
      have B3 := box (B2.out.trans (hb3.mono B2.out.size))
      clear hb3 r0 r1 r2 s0 s1 s2
      go_wp2
      go_ret
      exact ⟨rfl, B3.out⟩
theorem rMatchC13_is {k i : Int} {r v : ByteArray} {w : World} (hk : InI64 k) (hr : r.size ≤ 20000) (hv : v.size ≤ 20000) (h : Box (matchC k r.data.toList v.data.toList = i)) :
    Calls Tryz.prog 18 #[.int .i64 k, .string r, .string v] w fun e w' => e = .returned (.int .i64 i) ∧ Below w.heap.size w w' :=
  (rMatchC_any k r v w hk (by omega) (by omega)).mono fun e w' ⟨h1, h2⟩ => ⟨by rw [h1, h.out], h2⟩
theorem star13 {s : ByteArray} : (s.toList == [42]) = decide (s.data.toList = [42]) := by
  rw [toList_data]
  by_cases h : s.data.toList = [42]
  · rw [decide_eq_true h, h]; rfl
  · rw [decide_eq_false h, beq_eq_false_iff_ne]; exact h
set_option maxHeartbeats 1000000 in
theorem rMatch13_cod (k : Int) (r v : ByteArray) (w : World) (hk : k = 3 ∨ k = 4) (hr : r.size ≤ 20000) (hv : v.size ≤ 20000) :
    Calls Tryz.prog 6 #[.int .i64 k, .string r, .string v] w fun e w' => e = .returned (.int .i64 (matchP k r.data.toList v.data.toList)) ∧ Below w.heap.size w w' := by
  have HV := box (matchP_cod hk r.data.toList v.data.toList)
  have hki : InI64 k := by rcases hk with rfl | rfl <;> exact ⟨by omega, by omega⟩
  have hst := star13 (s := v)
  have hrm : r.size ≤ maxLen := by unfold maxLen; omega
  have hvm : v.size ≤ maxLen := by unfold maxLen; omega
  cases ht : tokL r.data.toList with
  | false =>
    have HT := box ht
    have HR : Box (matchP k r.data.toList v.data.toList = -1) := box (by rw [HV.out, ht]; rfl)
    clear ht
    rcases hk with rfl | rfl
    all_goals
      go_enter Tryz.func6, Tryz.ntmps6
      go_wp2_with fail
      refine (rTok13_is hrm HT).mono ?_; rintro e w1 ⟨rfl, rfl⟩
      go_wp2
      go_ret
      exact ⟨by rw [HR.out]; rfl, Below.refl _ _⟩
  | true =>
    have HT := box ht
    cases hu : tokL v.data.toList with
    | false =>
      have HU := box hu
      have HR : Box (matchP k r.data.toList v.data.toList = -1) := box (by rw [HV.out, ht, hu]; rfl)
      clear ht hu
      rcases hk with rfl | rfl
      all_goals
        go_enter Tryz.func6, Tryz.ntmps6
        go_wp2_with fail
        refine (rTok13_is hrm HT).mono ?_; rintro e w1 ⟨rfl, rfl⟩
        go_wp2_with fail
        refine (rTok13_is hvm HU).mono ?_; rintro e w1 ⟨rfl, rfl⟩
        go_wp2
        go_ret
        exact ⟨by rw [HR.out]; rfl, Below.refl _ _⟩
    | true =>
      have HU := box hu
      by_cases hs : v.data.toList = [42]
      · have HR : Box (matchP k r.data.toList v.data.toList = -1) := box (by rw [HV.out, ht, hu, decide_eq_false (by simp [hs])]; rfl)
        rw [decide_eq_true hs] at hst
        clear ht hu hs
        rcases hk with rfl | rfl
        all_goals
          go_enter Tryz.func6, Tryz.ntmps6
          go_wp2_with fail
          refine (rTok13_is hrm HT).mono ?_; rintro e w1 ⟨rfl, rfl⟩
          go_wp2_with fail
          refine (rTok13_is hvm HU).mono ?_; rintro e w1 ⟨rfl, rfl⟩
          go_wp2
          go_ret
          exact ⟨by rw [HR.out]; rfl, Below.refl _ _⟩
      · have HR : Box (matchC k r.data.toList v.data.toList = matchP k r.data.toList v.data.toList) := box (by rw [HV.out, ht, hu, decide_eq_true hs]; rfl)
        rw [decide_eq_false hs] at hst
        clear ht hu hs
        rcases hk with rfl | rfl
        all_goals
          go_enter Tryz.func6, Tryz.ntmps6
          go_wp2_with fail
          refine (rTok13_is hrm HT).mono ?_; rintro e w1 ⟨rfl, rfl⟩
          go_wp2_with fail
          refine (rTok13_is hvm HU).mono ?_; rintro e w1 ⟨rfl, rfl⟩
          go_wp2_with fail
          refine (rMatchC13_is hki hr hv HR).mono ?_; rintro e w2 ⟨rfl, hb2⟩
          go_wp2
          go_ret
          exact ⟨rfl, hb2⟩
theorem rMatch13_any (k : Int) (r v : ByteArray) (w : World) (hk : InI64 k) (hr : r.size ≤ 20000) (hv : v.size ≤ 20000) :
    Calls Tryz.prog 6 #[.int .i64 k, .string r, .string v] w fun e w' => e = .returned (.int .i64 (matchP k r.data.toList v.data.toList)) ∧ Below w.heap.size w w' := by
  by_cases h1 : k = 1
  · subst h1; exact rMatch13_acc r v w hr hv
  · by_cases h2 : k = 2
    · subst h2
      have HV := box (matchP_lan r.data.toList v.data.toList)
      have hr6 : r.size ≤ 65000 := by omega
      have hv6 : v.size ≤ 65000 := by omega
      clear h1
      go_enter Tryz.func6, Tryz.ntmps6
      go_wp2_with fail
      refine (rMatchT_any r v _ hr6 hv6).mono ?_; rintro e w1 ⟨rfl, hb1⟩
      go_wp2
      go_ret
      exact ⟨by rw [HV.out]; rfl, hb1⟩
    · by_cases h34 : k = 3 ∨ k = 4
      · exact rMatch13_cod k r v w h34 hr hv
      · have h3 : ¬ k = 3 := fun h => h34 (.inl h)
        have h4 : ¬ k = 4 := fun h => h34 (.inr h)
        have HV := box (matchP_no h1 h2 h3 h4 r.data.toList v.data.toList)
        have e1 : (k == 1) = false := by rw [beq_eq_false_iff_ne]; exact h1
        have e2 : (k == 2) = false := by rw [beq_eq_false_iff_ne]; exact h2
        have e3 : (k == 3) = false := by rw [beq_eq_false_iff_ne]; exact h3
        have e4 : (k == 4) = false := by rw [beq_eq_false_iff_ne]; exact h4
        clear h1 h2 h3 h4 h34
        go_enter Tryz.func6, Tryz.ntmps6
        go_wp2
        go_ret
        exact ⟨by rw [HV.out]; rfl, Below.refl _ _⟩
end
section
open Go.RowKit
theorem mMed13_is {s : ByteArray} {a b : ByteArray} {L : List F} {q : Bool} {w : World} (hs : s.size ≤ 65000) (h : Box (ofM (mediaL s.data.toList) = (a, b, L) ∧ (mediaL s.data.toList).isSome = q)) :
    Calls Tryz.prog 25 #[.string s] w fun e w' => ∃ p cap, e = .returned (.tuple #[.agg #[.string a, .string b, .slice p L.length cap], .bool q]) ∧ Fs w' p L ∧ Below w.heap.size w w' :=
  (mMedia_any s w hs).mono fun e w' ⟨v, h1, h2, h3⟩ => by
    rw [h.out.1] at h1 h2
    rw [h.out.2] at h1
    obtain ⟨p, cap, rfl, hF, _⟩ := h2.fs
    exact ⟨p, cap, h1, hF, h3⟩
theorem mmatch13_is {a b c d : ByteArray} {p q : Option Addr} {cp cq : Nat} {K L : List F} {i : Int} {w : World} (hk : Box (K.length ≤ 65536)) (hl : Box (L.length ≤ 65536))
    (hzK : Box (∀ i (hi : i < K.length), K[i].1.size ≤ 65536 ∧ K[i].2.size ≤ 65536)) (hzL : Box (∀ i (hi : i < L.length), L[i].1.size ≤ 65536 ∧ L[i].2.size ≤ 65536)) (hK : Fs w p K) (hL : Fs w q L) (h : Box (matchI (a, b, K) (c, d, L) = i)) :
    Calls Tryz.prog 26 #[.agg #[.string a, .string b, .slice p K.length cp], .agg #[.string c, .string d, .slice q L.length cq]] w fun e w' => e = .returned (.int .i64 i) ∧ Below w.heap.size w w' :=
  (mMatch10_any a b c d p q cp cq K L w hk.out hl.out hzK hzL (box hK) (box hL)).mono fun e w' ⟨h1, h2⟩ => ⟨by rw [h1, h.out], h2⟩
set_option maxHeartbeats 1000000 in
theorem mMatMT_any (r v : ByteArray) (w : World) (hr : r.size ≤ 20000) (hv : v.size ≤ 20000) :
    Calls Tryz.prog 10 #[.string r, .string v] w fun e w' => e = .returned (.int .i64 (matchP 1 r.data.toList v.data.toList)) ∧ Below w.heap.size w w' := by
  obtain ⟨⟨a, b, K⟩, h1⟩ : ∃ m, ofM (rangeL r.data.toList) = m := ⟨_, rfl⟩
  obtain ⟨ok, h2⟩ : ∃ q, (rangeL r.data.toList).isSome = q := ⟨_, rfl⟩
  obtain ⟨⟨c, d, L⟩, h3⟩ : ∃ m, ofM (mediaL v.data.toList) = m := ⟨_, rfl⟩
  obtain ⟨is, h4⟩ : ∃ q, (mediaL v.data.toList).isSome = q := ⟨_, rfl⟩
  have HV := box (matchP_acc h1 h2 h3 h4)
  obtain ⟨k1, k2, _, _⟩ := range_len h1
  obtain ⟨l1, l2, _, _⟩ := media_len h3
  have lK : Box (K.length ≤ 65536) := box (by omega)
  have lL : Box (L.length ≤ 65536) := box (by omega)
  have zK : Box (∀ i (hi : i < K.length), K[i].1.size ≤ 65536 ∧ K[i].2.size ≤ 65536) := box (fun i hi => by have := k2 i hi; omega)
  have zL : Box (∀ i (hi : i < L.length), L[i].1.size ≤ 65536 ∧ L[i].2.size ≤ 65536) := box (fun i hi => by have := l2 i hi; omega)
  have H1 := box (And.intro h1 h2)
  have H2 := box (And.intro h3 h4)
  have hr6 : r.size ≤ 65000 := by omega
  have hv6 : v.size ≤ 65000 := by omega
  clear h1 h2 h3 h4 k1 k2 l1 l2
  go_enter Tryz.func10, Tryz.ntmps10
  go_wp2_with fail
  refine (mRange_is hr6 H1).mono ?_; rintro e w1 ⟨p1, c1, rfl, hO1, hb1⟩
  obtain ⟨p9, c9, hv9, hF1, _⟩ := hO1.fs
  cases hv9
  have hnw := below_new w1 (.cells #[.string a, .string b, .slice p1 K.length c1] 33)
  have C1 := box (C3.new (.string a) (.string b) (.slice p1 K.length c1) w1 33)
  have F1 := box (hF1.below hnw)
  have B1 := box (hb1.trans (hnw.mono hb1.size))
  clear hO1 hF1 hb1 hnw
  go_wp2_with fail
  refine (mMed13_is hv6 H2).mono ?_; rintro e w2 ⟨p2, c2, rfl, hF2, hb2⟩
  have hnw := below_new w2 (.cells #[.string c, .string d, .slice p2 L.length c2] 33)
  have N1 := C1.out.next hb2
  have F2 := box ((F1.out.below hb2).below hnw)
  have G2 := box (hF2.below hnw)
  have B2 := box (B1.out.trans ((hb2.trans (hnw.mono hb2.size)).mono B1.out.size))
  have hne : w1.heap.size ≠ w2.heap.size := Nat.ne_of_lt N1.lt
  obtain ⟨⟨s0, s1, s2⟩, _⟩ := N1.next hnw
  obtain ⟨⟨r0, r1, r2⟩, _⟩ := N1
  clear hF2 hb2 hnw
  cases ok with
  | false =>
    have HR : Box (matchP 1 r.data.toList v.data.toList = -1) := box (by rw [HV.out]; rfl)
    go_wp2
    go_ret
    exact ⟨by rw [HR.out]; rfl, B2.out⟩
  | true =>
    cases is with
    | false =>
      have HR : Box (matchP 1 r.data.toList v.data.toList = -1) := box (by rw [HV.out]; rfl)
      go_wp2
      go_ret
      exact ⟨by rw [HR.out]; rfl, B2.out⟩
    | true =>
      have HR : Box (matchI (a, b, K) (c, d, L) = matchP 1 r.data.toList v.data.toList) := box (by rw [HV.out]; rfl)
      go_wp2_with fail
      refine (mmatch13_is lK lL zK zL F2.out G2.out HR).mono ?_; rintro e w3 ⟨rfl, hb3⟩
      have B3 := box (B2.out.trans (hb3.mono B2.out.size))
      clear hb3 r0 r1 r2 s0 s1 s2
      go_wp2
      go_ret
      exact ⟨rfl, B3.out⟩
theorem mMatchC13_is {k i : Int} {r v : ByteArray} {w : World} (hk : InI64 k) (hr : r.size ≤ 20000) (hv : v.size ≤ 20000) (h : Box (matchC k r.data.toList v.data.toList = i)) :
    Calls Tryz.prog 32 #[.int .i64 k, .string r, .string v] w fun e w' => e = .returned (.int .i64 i) ∧ Below w.heap.size w w' :=
  (mMatchC_any k r v w hk (by omega) (by omega)).mono fun e w' ⟨h1, h2⟩ => ⟨by rw [h1, h.out], h2⟩
set_option maxHeartbeats 1000000 in
theorem mMatTok_any (k : Int) (r v : ByteArray) (w : World) (hk : k = 3 ∨ k = 4) (hr : r.size ≤ 20000) (hv : v.size ≤ 20000) :
    Calls Tryz.prog 12 #[.int .i64 k, .string r, .string v] w fun e w' => e = .returned (.int .i64 (matchP k r.data.toList v.data.toList)) ∧ Below w.heap.size w w' := by
  have HV := box (matchP_cod hk r.data.toList v.data.toList)
  have hki : InI64 k := by rcases hk with rfl | rfl <;> exact ⟨by omega, by omega⟩
  have hst := star13 (s := v)
  have hrm : r.size ≤ maxLen := by unfold maxLen; omega
  have hvm : v.size ≤ maxLen := by unfold maxLen; omega
  clear hk
  cases ht : tokL r.data.toList with
  | false =>
    have HT := box ht
    have HR : Box (matchP k r.data.toList v.data.toList = -1) := box (by rw [HV.out, ht]; rfl)
    clear ht hst
    go_enter Tryz.func12, Tryz.ntmps12
    go_wp2_with fail
    refine (aToken_is hrm HT).mono ?_; rintro e w1 ⟨rfl, rfl⟩
    go_wp2
    go_ret
    exact ⟨by rw [HR.out]; rfl, Below.refl _ _⟩
  | true =>
    have HT := box ht
    cases hu : tokL v.data.toList with
    | false =>
      have HU := box hu
      have HR : Box (matchP k r.data.toList v.data.toList = -1) := box (by rw [HV.out, ht, hu]; rfl)
      clear ht hu hst
      go_enter Tryz.func12, Tryz.ntmps12
      go_wp2_with fail
      refine (aToken_is hrm HT).mono ?_; rintro e w1 ⟨rfl, rfl⟩
      go_wp2_with fail
      refine (aToken_is hvm HU).mono ?_; rintro e w1 ⟨rfl, rfl⟩
      go_wp2
      go_ret
      exact ⟨by rw [HR.out]; rfl, Below.refl _ _⟩
    | true =>
      have HU := box hu
      by_cases hs : v.data.toList = [42]
      · have HR : Box (matchP k r.data.toList v.data.toList = -1) := box (by rw [HV.out, ht, hu, decide_eq_false (by simp [hs])]; rfl)
        rw [decide_eq_true hs] at hst
        clear ht hu hs
        go_enter Tryz.func12, Tryz.ntmps12
        go_wp2_with fail
        refine (aToken_is hrm HT).mono ?_; rintro e w1 ⟨rfl, rfl⟩
        go_wp2_with fail
        refine (aToken_is hvm HU).mono ?_; rintro e w1 ⟨rfl, rfl⟩
        go_wp2
        go_ret
        exact ⟨by rw [HR.out]; rfl, Below.refl _ _⟩
      · have HR : Box (matchC k r.data.toList v.data.toList = matchP k r.data.toList v.data.toList) := box (by rw [HV.out, ht, hu, decide_eq_true hs]; rfl)
        rw [decide_eq_false hs] at hst
        clear ht hu hs
        go_enter Tryz.func12, Tryz.ntmps12
        go_wp2_with fail
        refine (aToken_is hrm HT).mono ?_; rintro e w1 ⟨rfl, rfl⟩
        go_wp2_with fail
        refine (aToken_is hvm HU).mono ?_; rintro e w1 ⟨rfl, rfl⟩
        go_wp2_with fail
        refine (mMatchC13_is hki hr hv HR).mono ?_; rintro e w2 ⟨rfl, hb2⟩
        go_wp2
        go_ret
        exact ⟨rfl, hb2⟩
theorem mMatMT_is {r v : ByteArray} {i : Int} {w : World} (hr : r.size ≤ 20000) (hv : v.size ≤ 20000) (h : Box (matchP 1 r.data.toList v.data.toList = i)) :
    Calls Tryz.prog 10 #[.string r, .string v] w fun e w' => e = .returned (.int .i64 i) ∧ Below w.heap.size w w' :=
  (mMatMT_any r v w hr hv).mono fun e w' ⟨h1, h2⟩ => ⟨by rw [h1, h.out], h2⟩
theorem mMatTok_is {k i : Int} {r v : ByteArray} {w : World} (hk : k = 3 ∨ k = 4) (hr : r.size ≤ 20000) (hv : v.size ≤ 20000) (h : Box (matchP k r.data.toList v.data.toList = i)) :
    Calls Tryz.prog 12 #[.int .i64 k, .string r, .string v] w fun e w' => e = .returned (.int .i64 i) ∧ Below w.heap.size w w' :=
  (mMatTok_any k r v w hk hr hv).mono fun e w' ⟨h1, h2⟩ => ⟨by rw [h1, h.out], h2⟩
theorem mMatch13_any (k : Int) (r v : ByteArray) (w : World) (hk : InI64 k) (hr : r.size ≤ 20000) (hv : v.size ≤ 20000) :
    Calls Tryz.prog 5 #[.int .i64 k, .string r, .string v] w fun e w' => e = .returned (.int .i64 (matchP k r.data.toList v.data.toList)) ∧ Below w.heap.size w w' := by
  obtain ⟨i, hi⟩ : ∃ i, matchP k r.data.toList v.data.toList = i := ⟨_, rfl⟩
  rw [hi]
  by_cases h1 : k = 1
  · subst h1
    have HI := box hi
    clear hi
    go_enter Tryz.func5, Tryz.ntmps5
    go_wp2_with fail
    refine (mMatMT_is hr hv HI).mono ?_; rintro e w1 ⟨rfl, hb1⟩
    go_wp2
    go_ret
    exact ⟨rfl, hb1⟩
  · by_cases h2 : k = 2
    · subst h2
      have HI : Box (matchT r.data.toList v.data.toList = i) := box (by rw [← matchP_lan]; exact hi)
      have hr6 : r.size ≤ 65000 := by omega
      have hv6 : v.size ≤ 65000 := by omega
      clear h1 hi
      go_enter Tryz.func5, Tryz.ntmps5
      go_wp2_with fail
      refine (mMatchM_is hr6 hv6 HI).mono ?_; rintro e w1 ⟨rfl, hb1⟩
      go_wp2
      go_ret
      exact ⟨rfl, hb1⟩
    · have HI := box hi
      by_cases h3 : k = 3
      · subst h3
        clear h1 h2 hi
        go_enter Tryz.func5, Tryz.ntmps5
        go_wp2_with fail
        refine (mMatTok_is (.inl rfl) hr hv HI).mono ?_; rintro e w1 ⟨rfl, hb1⟩
        go_wp2
        go_ret
        exact ⟨rfl, hb1⟩
      · by_cases h4 : k = 4
        · subst h4
          clear h1 h2 h3 hi
          go_enter Tryz.func5, Tryz.ntmps5
          go_wp2_with fail
          refine (mMatTok_is (.inr rfl) hr hv HI).mono ?_; rintro e w1 ⟨rfl, hb1⟩
          go_wp2
          go_ret
          exact ⟨rfl, hb1⟩
        · have HV : Box (i = -1) := box (by rw [← hi]; exact matchP_no h1 h2 h3 h4 r.data.toList v.data.toList)
          have e1 : (k == 1) = false := by rw [beq_eq_false_iff_ne]; exact h1
          have e2 : (k == 2) = false := by rw [beq_eq_false_iff_ne]; exact h2
          have e3 : (k == 3) = false := by rw [beq_eq_false_iff_ne]; exact h3
          have e4 : (k == 4) = false := by rw [beq_eq_false_iff_ne]; exact h4
          clear h1 h2 h3 h4 hi
          go_enter Tryz.func5, Tryz.ntmps5
          go_wp2
          go_ret
          exact ⟨by rw [HV.out]; rfl, Below.refl _ _⟩
end
section
open Go.RowKit
def joinB (L : List ByteArray) : ByteArray := bs (joinC (L.map fun x => x.data.toList))
def JoiRel (L : List ByteArray) (v i : Value) : Prop := ∃ (k : Nat) (x : ByteArray), i = .int .i64 k ∧ v = .string x ∧ k ≤ L.length ∧ x.data.toList = joinC ((L.map fun x => x.data.toList).take k) ∧ x.size ≤ 65540 * k
theorem bs_is {x : ByteArray} {l : List UInt8} (h : x.data.toList = l) : x = bs l := by subst h; rfl
set_option maxHeartbeats 1000000 in
theorem rJoin7_any (a : Option Addr) (cap : Nat) (L : List ByteArray) (w : World) (hl : L.length ≤ 65536) (hz : Box (∀ x ∈ L, x.size ≤ 65536)) (hF : Box (Ss w a L)) :
    Calls Tryz.prog 22 #[.slice a L.length cap] w fun e w' => e = .returned (.string (joinB L)) ∧ w = w' := by
  obtain ⟨ms, hms⟩ : ∃ ms, (L.map fun x => x.data.toList) = ms := ⟨_, rfl⟩
  have HMS := box hms
  have hml : ms.length = L.length := by rw [← hms, List.length_map]
  go_enter Tryz.func22, Tryz.ntmps22
  go_wp2
  go_loop [3, 4] (fun v i => JoiRel L v i) (fun _ i => L.length - (intOf i).toNat)
  case atStart => exact ⟨0, ⟨#[]⟩, rfl, rfl, Nat.zero_le _, rfl, Nat.zero_le _⟩
  case round =>
    obtain ⟨k, x, rfl, rfl, hk, hx, hxz⟩ := hrel
    rw [hms] at hx
    have HX := box hx
    clear hx
    by_cases hlt : k < L.length
    · obtain ⟨q, off, rfl, c0⟩ := hF.out k hlt
      have hLz := hz.out L[k] (List.getElem_mem hlt)
      have hmk : ms[k]'(by omega) = L[k].data.toList := by simp only [← hms, List.getElem_map]
      have hjm := joinC_more (ms := ms) (k := k) (by omega)
      rw [hmk] at hjm
      by_cases hk0 : k = 0
      · have hki : ¬ (0 : Int) < (k : Int) := by omega
        have hx0 : x.data.toList = [] := by rw [HX.out, hk0]; rfl
        have r1 : ∀ w, (Op.stringOp .add x L[k]).run Tryz.prog w = .ok (.string (x ++ L[k])) w := fun w => run_string_add_sum w _ _ (by show x.size + L[k].size ≤ 9223372036854775807; omega)
        have HN : Box ((x ++ L[k]).data.toList = joinC (ms.take (k + 1))) := box (by rw [hjm, if_pos hk0]; simp [ByteArray.data_append, hx0])
        have HS : Box ((x ++ L[k]).size ≤ 65540 * (k + 1)) := box (by rw [ByteArray.size_append]; omega)
        clear hx0 hk0 hjm hmk
        go_wp2
        go_round
        case rel => exact ⟨k + 1, _, by go_num, rfl, by omega, by rw [HMS.out]; exact HN.out, HS.out⟩
        case measure => simp [intOf]; omega
      · have hki : (0 : Int) < (k : Int) := by omega
        have e2 : (⟨#[44, 32]⟩ : ByteArray).size = 2 := rfl
        have hs1 : (x ++ (⟨#[44, 32]⟩ : ByteArray)).size = x.size + 2 := by rw [ByteArray.size_append, e2]
        have r0 : ∀ w, (Op.stringOp .add x ⟨#[44, 32]⟩).run Tryz.prog w = .ok (.string (x ++ ⟨#[44, 32]⟩)) w := fun w => run_string_add_sum w _ _ (by show x.size + 2 ≤ 9223372036854775807; omega)
        have r1 : ∀ w, (Op.stringOp .add (x ++ ⟨#[44, 32]⟩) L[k]).run Tryz.prog w = .ok (.string (x ++ ⟨#[44, 32]⟩ ++ L[k])) w := fun w => run_string_add_sum w _ _ (by rw [hs1]; show x.size + 2 + L[k].size ≤ 9223372036854775807; omega)
        have HN : Box ((x ++ ⟨#[44, 32]⟩ ++ L[k]).data.toList = joinC (ms.take (k + 1))) := box (by rw [hjm, if_neg hk0, ← HX.out]; simp [ByteArray.data_append])
        have HS : Box ((x ++ ⟨#[44, 32]⟩ ++ L[k]).size ≤ 65540 * (k + 1)) := box (by rw [ByteArray.size_append, hs1]; omega)
        clear e2 hs1 hk0 hjm hmk
        go_wp2
        go_round
        case rel => exact ⟨k + 1, _, by go_num, rfl, by omega, by rw [HMS.out]; exact HN.out, HS.out⟩
        case measure => simp [intOf]; omega
    · have HE : Box (joinB L = x) := box (by unfold joinB; rw [hms, ← List.take_of_length_le (l := ms) (i := k) (by omega)]; exact (bs_is HX.out).symm)
      go_wp2
      go_ret
      exact ⟨by rw [HE.out]; rfl, rfl⟩
end
section
open Go.RowKit
def fmtPf (L : List QP) : ByteArray := joinB (L.map fun p => bs (onePref p))
theorem cell_new13 (w : World) (u : Value) (t : TypeId) : (w.alloc (.cells #[u] t)).cell? ⟨w.heap.size, 0, none⟩ = some u := by rw [World.cell?_alloc_mark]; rfl
def FpRel (L : List QP) (W : World) (v i : Value) (wr : World) : Prop :=
  ∃ j : Nat, i = .int .i64 j ∧ j ≤ L.length ∧ OwnS wr W.heap.size v ((L.take j).map fun p => bs (onePref p)) ∧ Below W.heap.size W wr
theorem map_next {α β : Type} {f : α → β} {L : List α} {j : Nat} (h : j < L.length) : (L.take (j + 1)).map f = (L.take j).map f ++ [f L[j]] := by
  rw [List.take_succ_eq_append_getElem h, List.map_append]; rfl
theorem fmtQ_le5 (q : Int) : (fmtQ q).length ≤ 5 := by
  by_cases h : q < 0 ∨ 1000 < q
  · rw [qv_none q h]; simp
  · have key : ∀ n : Fin 1001, (fmtQ (n.1 : Int)).length ≤ 5 := by decide +kernel
    have := key ⟨q.toNat, by omega⟩
    simp only at this
    rwa [show ((q.toNat : Nat) : Int) = q from by omega] at this
theorem rFmtQ13_is {q : Int} {x : ByteArray} {w : World} (hq : InI64 q) (h : Box (bs (fmtQ q) = x)) :
    Calls Tryz.prog 21 #[.int .i64 q] w fun e w' => e = .returned (.string x) ∧ Below w.heap.size w w' :=
  (rFormatQ_any q w hq).mono fun e w' ⟨h1, h2⟩ => ⟨by rw [h1, h.out], h2⟩
set_option maxHeartbeats 2000000 in
theorem rFmtPrefs_any (a : Option Addr) (cap : Nat) (L : List QP) (w : World) (hl : L.length ≤ 65536) (hz : Box (∀ i (hi : i < L.length), L[i].1.size ≤ 65000)) (hq : Box (∀ i (hi : i < L.length), InI64 L[i].2)) (hF : Box (Qs w a L)) :
    Calls Tryz.prog 8 #[.slice a L.length cap] w fun e w' => e = .returned (.string (fmtPf L)) ∧ Below w.heap.size w w' := by
  go_enter Tryz.func8, Tryz.ntmps8
  go_wp2
  go_loopw [3, 4, 5] (fun v i _ wr => FpRel L w v i wr) (fun _ i _ _ => L.length - (intOf i).toNat)
  case atStart => exact ⟨0, rfl, Nat.zero_le _, OwnS.nil _ _, Below.refl _ _⟩
  case round =>
    obtain ⟨j, rfl, hj, hO, hbel⟩ := hrel
    obtain ⟨acc, hacc⟩ : ∃ acc, ((L.take j).map fun p => bs (onePref p)) = acc := ⟨_, rfl⟩
    have HACC := box hacc
    rw [hacc] at hO
    have hal : acc.length ≤ 65536 := by rw [← hacc, List.length_map, List.length_take]; omega
    obtain ⟨av, cv, rfl, _, _⟩ := hO.ss
    have O0 := box hO
    have BL := box hbel
    have QS := hF.out.below hbel
    clear hO hbel hacc
    by_cases hlt : j < L.length
    · have hji : (j : Int) < (L.length : Int) := by omega
      obtain ⟨⟨x, q⟩, hp⟩ : ∃ p, L[j] = p := ⟨_, rfl⟩
      have HNX := box (map_next (f := fun p : QP => bs (onePref p)) hlt)
      rw [HACC.out, hp] at HNX
      obtain ⟨g, off, rfl, c0, c1⟩ := QS j hlt
      rw [hp] at c0 c1
      have hxz : x.size ≤ 65000 := by have := hz.out j hlt; rw [hp] at this; exact this
      have hqi : InI64 q := by have := hq.out j hlt; rw [hp] at this; exact this
      clear QS hp
      by_cases h1 : q = 1000
      · subst h1
        have HE : Box (((L.take (j + 1)).map fun p => bs (onePref p)) = acc ++ [x]) := box (by rw [HNX.out]; unfold onePref; simp only [if_pos, List.append_nil]; rfl)
        go_wp2_with (at_builtin; refine wpList_append_str _ rfl (.tmp 32) (.tmp 34) rfl w.heap.size _ acc rfl (own_below O0.out (below_new _ _)) _ _ rfl x (cell_new13 _ _ _) (by omega) (by have := BL.out.size; simp; omega) ?_)
        intro v5 w5 hO5 hb5
        have O5 := box hO5
        have B5 := box ((BL.out.alloc BL.out.size _).trans hb5)
        clear hO5 hb5
        go_wp2
        go_roundw
        case rel => exact ⟨j + 1, by go_num, hlt, by rw [HE.out]; exact O5.out, B5.out⟩
        case measure => simp [intOf]; omega
      · have hqn : (q != 1000) = true := by simp [h1]
        obtain ⟨f, hf⟩ : ∃ f, bs (fmtQ q) = f := ⟨_, rfl⟩
        have HFQ := box hf
        have hfz : f.size ≤ 5 := by rw [← hf, bs_size]; exact fmtQ_le5 q
        obtain ⟨y, hy⟩ : ∃ y, bs (onePref (x, q)) = y := ⟨_, rfl⟩
        have hyq : x ++ ((⟨#[59, 113, 61]⟩ : ByteArray) ++ f) = y := by
          rw [← hy, ← hf]
          unfold onePref
          rw [if_neg h1, bs_of (x ++ ((⟨#[59, 113, 61]⟩ : ByteArray) ++ bs (fmtQ q)))]
          congr 1
        have HE : Box (((L.take (j + 1)).map fun p => bs (onePref p)) = acc ++ [y]) := box (by rw [HNX.out, hy])
        have ad1 : ∀ w, (Op.stringOp .add ⟨#[59, 113, 61]⟩ f).run Tryz.prog w = .ok (.string (⟨#[59, 113, 61]⟩ ++ f)) w := fun w => run_string_add_sum w _ _ (by show 3 + f.size ≤ 9223372036854775807; omega)
        have ad2 : ∀ w, (Op.stringOp .add x (⟨#[59, 113, 61]⟩ ++ f)).run Tryz.prog w = .ok (.string y) w := fun w => by
          have := run_string_add_sum (P := Tryz.prog) w x ((⟨#[59, 113, 61]⟩ : ByteArray) ++ f) (by rw [ByteArray.size_append]; show x.size + (3 + f.size) ≤ 9223372036854775807; omega)
          rw [hyq] at this; exact this
        clear hf hy hyq h1
        go_wp2_with fail
        refine (rFmtQ13_is hqi HFQ).mono ?_; rintro e w3 ⟨rfl, hb3⟩
        have O3 := box (own_below O0.out hb3)
        have B3 := box (BL.out.trans (hb3.mono BL.out.size))
        clear hb3 c0 c1
        go_wp2_with (at_builtin; refine wpList_append_str _ rfl (.tmp 32) (.tmp 34) rfl w.heap.size _ acc rfl (own_below O3.out (below_new _ _)) _ _ rfl y (cell_new13 _ _ _) (by omega) (by have := B3.out.size; simp; omega) ?_)
        intro v5 w5 hO5 hb5
        have O5 := box hO5
        have B5 := box ((B3.out.alloc B3.out.size _).trans hb5)
        clear hO5 hb5
        go_wp2
        go_roundw
        case rel => exact ⟨j + 1, by go_num, hlt, by rw [HE.out]; exact O5.out, B5.out⟩
        case measure => simp [intOf]; omega
    · have hji : ¬ (j : Int) < (L.length : Int) := by omega
      have HE : Box (joinB acc = fmtPf L) := box (by unfold fmtPf; rw [← HACC.out, List.take_of_length_le (by omega)])
      have hsz : Box (∀ y ∈ acc, y.size ≤ 65536) := box (fun y hy => by
        rw [← HACC.out] at hy
        obtain ⟨p, hp, rfl⟩ := List.mem_map.1 hy
        obtain ⟨i, hi, rfl⟩ := List.getElem_of_mem (List.mem_of_mem_take hp)
        have h1 := hz.out i hi
        have h2 := fmtQ_le5 L[i].2
        rw [bs_size]
        unfold onePref
        rw [List.length_append]
        have hz2 : L[i].1.data.toList.length = L[i].1.size := by simp
        split
        · simp; omega
        · simp only [List.length_cons]; omega)
      obtain ⟨a5, c5, hv5, hS5, _⟩ := O0.out.ss
      cases hv5
      have S5 := box hS5
      clear QS hS5
      go_wp2_with fail
      refine (rJoin7_any av cv acc _ hal hsz S5).mono ?_; rintro e w3 ⟨rfl, rfl⟩
      go_wp2
      go_ret
      exact ⟨by rw [← HE.out]; rfl, BL.out⟩
end
section
open Go.RowKit
/-- the lengths of the first k -/
def lenT (L : List ByteArray) (k : Nat) : Nat := ((L.take k).map (·.size)).sum
theorem lenT_next {L : List ByteArray} {k : Nat} (h : k < L.length) : lenT L (k + 1) = lenT L k + L[k].size := by
  unfold lenT; rw [List.take_add_one, List.getElem?_eq_getElem h, Option.toList_some, List.map_append, List.sum_append]; rfl
theorem lenT_le {L : List ByteArray} (hz : ∀ x ∈ L, x.size ≤ 65536) : ∀ k, lenT L k ≤ k * 65536
  | 0 => by simp [lenT]
  | k + 1 => by
    have ih := lenT_le hz k
    by_cases h : k < L.length
    · rw [lenT_next h]; have := hz L[k] (List.getElem_mem h); omega
    · have e : lenT L (k + 1) = lenT L k := by unfold lenT; rw [List.take_of_length_le (by omega), List.take_of_length_le (by omega)]
      omega
theorem joinC_len {ms : List (List UInt8)} (hz : ∀ x ∈ ms, x.length ≤ 65536) : ∀ k, (joinC (ms.take k)).length ≤ k * 65540
  | 0 => by simp [joinC]
  | k + 1 => by
    have ih := joinC_len hz k
    by_cases h : k < ms.length
    · have := hz ms[k] (List.getElem_mem h)
      rw [joinC_more h]
      split
      · omega
      · simp only [List.length_append, List.length_cons, List.length_nil]; omega
    · have e : ms.take (k + 1) = ms.take k := by rw [List.take_of_length_le (by omega), List.take_of_length_le (by omega)]
      rw [e]
      exact Nat.le_trans ih (Nat.mul_le_mul_right _ (Nat.le_succ k))
theorem joinC_two {a b : List UInt8} {r : List (List UInt8)} : joinC (a :: b :: r) ≠ [] := by
  show a ++ [44, 32] ++ joinC (b :: r) ≠ []
  simp
theorem Join0_any (a : Option Addr) (cap : Nat) (w : World) :
    Calls Tryz.prog 43 #[.slice a 0 cap, .string ⟨#[44, 32]⟩] w fun e w' => e = .returned (.string ⟨#[]⟩) ∧ w = w' := by
  go_enter Tryz.func43, Tryz.ntmps43
  go_wp2
  go_ret
  exact ⟨rfl, rfl⟩
theorem Join1_any (q off cap : Nat) (x : ByteArray) (w : World) (c0 : w.cell? ⟨q, off, none⟩ = some (.string x)) :
    Calls Tryz.prog 43 #[.slice (some ⟨q, off, none⟩) 1 cap, .string ⟨#[44, 32]⟩] w fun e w' => e = .returned (.string x) ∧ w = w' := by
  go_enter Tryz.func43, Tryz.ntmps43
  go_wp2
  go_ret
  exact ⟨rfl, rfl⟩
def Jn1 (L : List ByteArray) (n i : Value) : Prop := ∃ k : Nat, k ≤ L.length ∧ i = .int .i64 k ∧ n = .int .i64 ((2 * (L.length - 1) + lenT L k : Nat) : Int)
def Jn2 (ms : List (List UInt8)) (B : Nat) (w : World) (i : Value) (wr : World) : Prop := ∃ k : Nat, k + 1 ≤ ms.length ∧ i = .int .i64 k ∧ Box (Bld wr B B (joinC (ms.take (k + 1)))) ∧ Box (Below B w wr)
set_option maxHeartbeats 2000000 in
theorem JoinN_any (q off cap : Nat) (L : List ByteArray) (w : World) (h2 : 2 ≤ L.length) (hl : L.length ≤ 65536) (hcap : L.length ≤ cap) (hz : Box (∀ x ∈ L, x.size ≤ 65536)) (hF : Box (Ss w (some ⟨q, off, none⟩) L)) :
    Calls Tryz.prog 43 #[.slice (some ⟨q, off, none⟩) L.length cap, .string ⟨#[44, 32]⟩] w fun e w' => e = .returned (.string (joinB L)) ∧ Below w.heap.size w w' := by
  have hdv : ¬ (9223372036854775807 / ((L.length : Int) - 1) ≤ 2) := by
    have : 3 ≤ 9223372036854775807 / ((L.length : Int) - 1) := by
      rw [Int.le_ediv_iff_mul_le (by omega)]; omega
    omega
  have hne0 : ((L.length : Int) == 0) = false := beq_eq_false_iff_ne.2 (by omega)
  have hne1 : ((L.length : Int) == 1) = false := beq_eq_false_iff_ne.2 (by omega)
  go_enter Tryz.func43, Tryz.ntmps43
  go_wp2_with fail
  go_loop [5, 41] (fun n i => Jn1 L n i) (fun _ i => L.length - (intOf i).toNat)
  case atStart => exact ⟨0, Nat.zero_le _, rfl, by unfold lenT; simp; omega⟩
  case round =>
    obtain ⟨k, hk, rfl, rfl⟩ := hrel
    have hlz := lenT_le hz.out k
    by_cases hlt : k < L.length
    · obtain ⟨q', off', e, c0⟩ := hF.out k hlt
      cases e
      have hx := hz.out L[k] (List.getElem_mem hlt)
      have HN := box (lenT_next hlt)
      obtain ⟨A, hA⟩ : ∃ A, lenT L k = A := ⟨_, rfl⟩
      have HA := box hA
      rw [hA] at hlz ⊢
      clear hA
      go_wp2
      go_round
      case rel => exact ⟨k + 1, by omega, by go_num, by rw [HN.out, HA.out]; go_num⟩
      case measure => simp [intOf]; omega
    · obtain rfl : k = L.length := by omega
      obtain ⟨n, hn⟩ : ∃ n, 2 * (L.length - 1) + lenT L L.length = n := ⟨_, rfl⟩
      have hn8 : n ≤ 281474976710656 := by omega
      rw [hn]
      clear hn hlz
      obtain ⟨ms, hms⟩ : ∃ ms, (L.map fun x => x.data.toList) = ms := ⟨_, rfl⟩
      have HJ : Box (joinB L = bs (joinC ms)) := box (by unfold joinB; rw [hms])
      have hml : ms.length = L.length := by rw [← hms, List.length_map]
      have HME : Box (∀ k (h : k < L.length), ms[k]'(by omega) = L[k].data.toList) := box (fun k h => by simp only [← hms, List.getElem_map])
      have HML : Box (∀ x ∈ ms, x.length ≤ 65536) := box (fun x hx => by
        rw [← hms] at hx
        obtain ⟨y, hy, rfl⟩ := List.mem_map.mp hx
        have := hz.out y hy
        simpa using this)
      clear hms
      have hq : q < w.heap.size := by
        obtain ⟨q', off', e, c0⟩ := hF.out 0 (by omega)
        cases e
        exact cell_lt c0
      go_wp2_with fail
      refine (Grow_new w.heap.size w.heap.size n _ (Nat.le_refl _) (heap_alloc_new w _) (by simp) hn8).mono ?_; rintro e w1 ⟨rfl, hA1, hb1⟩
      have A1 : Box (Bld w1 w.heap.size w.heap.size []) := box (.inr hA1)
      have B1 := box ((below_new w _).trans hb1)
      have hs1 := B1.out.size
      clear hA1 hb1
      have hl0 : 0 < L.length := by omega
      obtain ⟨q', off', e, c0⟩ := (hF.out.below B1.out) 0 hl0
      cases e
      rw [Nat.add_zero] at c0
      have hx0 := hz.out L[0] (List.getElem_mem hl0)
      go_wp2_with fail
      refine (WriteString_any w.heap.size w.heap.size [] L[0] _ A1 (by rw [List.length_nil]; omega) hs1).mono ?_; rintro e w2 ⟨rfl, hA2, hb2⟩
      have A2 : Box (Bld w2 w.heap.size w.heap.size (joinC (ms.take 1))) := box (.inr (by
        rw [joinC_more (k := 0) (by omega), if_pos rfl, HME.out 0 hl0]; exact hA2))
      have B2 := box (B1.out.trans hb2)
      clear hA2 hb2 c0
      go_wp2_with fail
      go_loopw [65] (fun i wr => Jn2 ms w.heap.size w i wr) (fun i _ => L.length - (intOf i).toNat)
      case atStart => exact ⟨0, by omega, rfl, A2, B2⟩
      case round =>
        obtain ⟨k, hk, rfl, A3, B3⟩ := hrel
        have hs3 := B3.out.size
        have hjl := joinC_len HML.out (k + 1)
        by_cases hlt : k + 1 < L.length
        · obtain ⟨q', off', e, c0⟩ := (hF.out.below B3.out) (k + 1) hlt
          cases e
          rw [show off + (k + 1) = off + 1 + k from by omega] at c0
          have hxk := hz.out L[k + 1] (List.getElem_mem hlt)
          go_wp2_with fail
          refine (WriteString_any w.heap.size w.heap.size _ ⟨#[44, 32]⟩ _ A3 (by show _ + 2 ≤ _; omega) hs3).mono ?_; rintro e w4 ⟨rfl, hA4, hb4⟩
          have A4 : Box (Bld w4 w.heap.size w.heap.size (joinC (ms.take (k + 1)) ++ [44, 32])) := box (.inr hA4)
          have B4 := box (B3.out.trans hb4)
          have hs4 := B4.out.size
          clear hA4 hb4
          go_wp2_with fail
          refine (WriteString_any w.heap.size w.heap.size _ L[k + 1] _ A4 (by rw [List.length_append]; show _ + 2 + _ ≤ _; omega) hs4).mono ?_; rintro e w5 ⟨rfl, hA5, hb5⟩
          have A5 : Box (Bld w5 w.heap.size w.heap.size (joinC (ms.take (k + 1 + 1)))) := box (.inr (by
            rw [joinC_more (k := k + 1) (by omega), if_neg (by omega), HME.out (k + 1) hlt]; exact hA5))
          have B5 := box (B4.out.trans hb5)
          clear hA5 hb5 c0
          go_wp2
          go_roundw
          case rel => exact ⟨k + 1, by omega, by go_num, A5, B5⟩
          case measure => simp [intOf]; omega
        · have hfull : ms.take (k + 1) = ms := List.take_of_length_le (by omega)
          rw [hfull] at A3
          have hne : joinC ms ≠ [] := by
            match ms, hml, h2 with
            | [], e, _ => simp at e; omega
            | [a], e, _ => simp at e; omega
            | a :: b :: r, _, _ => exact joinC_two
          go_wp2_with fail
          refine (String_any w.heap.size w.heap.size _ _ A3 hne).mono ?_; rintro e w6 ⟨rfl, hb6⟩
          have B6 := box (B3.out.trans hb6)
          clear hb6
          go_wp2
          go_ret
          exact ⟨by rw [HJ.out]; rfl, B6.out⟩
end
section
open Go.RowKit
theorem sJoin_any (a : Option Addr) (cap : Nat) (L : List ByteArray) (w : World) (hl : L.length ≤ 65536) (hc : L.length ≤ cap) (hz : Box (∀ x ∈ L, x.size ≤ 65536)) (hF : Box (Ss w a L)) :
    Calls Tryz.prog 43 #[.slice a L.length cap, .string ⟨#[44, 32]⟩] w fun e w' => e = .returned (.string (joinB L)) ∧ Below w.heap.size w w' := by
  match L, hl, hc, hz, hF with
  | [], _, _, _, _ => exact (Join0_any a cap w).mono fun e w' ⟨h1, h2⟩ => ⟨h1, h2 ▸ Below.refl _ _⟩
  | [x], _, _, _, hF =>
    obtain ⟨q, off, rfl, c0⟩ := hF.out 0 (Nat.zero_lt_succ 0)
    exact (Join1_any q off cap x w c0).mono fun e w' ⟨h1, h2⟩ => ⟨h1, h2 ▸ Below.refl _ _⟩
  | x :: y :: r, hl, hc, hz, hF =>
    obtain ⟨q, off, rfl, c0⟩ := hF.out 0 (Nat.zero_lt_succ _)
    exact JoinN_any q off cap (x :: y :: r) w (Nat.le_add_left 2 r.length) hl hc hz hF
theorem mJoin_any (a : Option Addr) (cap : Nat) (L : List ByteArray) (w : World) (hl : L.length ≤ 65536) (hc : L.length ≤ cap) (hz : Box (∀ x ∈ L, x.size ≤ 65536)) (hF : Box (Ss w a L)) :
    Calls Tryz.prog 20 #[.slice a L.length cap] w fun e w' => e = .returned (.string (joinB L)) ∧ Below w.heap.size w w' := by
  go_enter Tryz.func20, Tryz.ntmps20
  go_wp2_with fail
  refine (sJoin_any a cap L _ hl hc hz hF).mono ?_; rintro e w1 ⟨rfl, hb⟩
  have B := box hb
  clear hb
  go_wp2
  go_ret
  exact ⟨rfl, B.out⟩
end
section
open Go.RowKit
theorem mFq13_is {q : Int} {x : ByteArray} {w : World} (hq : InI64 q) (hW : Wts w) (h : Box (bs (fmtQ q) = x)) :
    Calls Tryz.prog 42 #[.int .i64 q] w fun e w' => e = .returned (.string x) ∧ Below w.heap.size w w' :=
  (mFormat8_any q w hq hW).mono fun e w' ⟨h1, h2⟩ => ⟨by rw [h1, h.out], h2⟩
set_option maxHeartbeats 1000000 in
theorem mfp_is {x : ByteArray} {q : Int} {y : ByteArray} {w : World} (hxz : x.size ≤ 65000) (hq : InI64 q) (hW : Wts w) (h : Box (bs (onePref (x, q)) = y)) :
    Calls Tryz.prog 19 #[.agg #[.string x, .int .i64 q]] w fun e w' => e = .returned (.string y) ∧ Below w.heap.size w w' := by
  have HT := box hW
  clear hW
  by_cases h1 : q = 1000
  · subst h1
    obtain rfl : x = y := by rw [← h.out]; unfold onePref; simp only [if_pos, List.append_nil]; rfl
    go_enter Tryz.func19, Tryz.ntmps19
    go_wp2
    go_ret
    exact ⟨rfl, below_new w _⟩
  · have hqn : (q == 1000) = false := by simp [h1]
    obtain ⟨f, hf⟩ : ∃ f, bs (fmtQ q) = f := ⟨_, rfl⟩
    have HFQ := box hf
    have hfz : f.size ≤ 5 := by rw [← hf, bs_size]; exact fmtQ_le5 q
    have hyq : (x ++ (⟨#[59, 113, 61]⟩ : ByteArray)) ++ f = y := by
      rw [← h.out, ← hf]
      unfold onePref
      rw [if_neg h1, bs_of (x ++ (⟨#[59, 113, 61]⟩ : ByteArray) ++ bs (fmtQ q))]
      congr 1
      simp
      rfl
    have ad1 : ∀ w, (Op.stringOp .add x ⟨#[59, 113, 61]⟩).run Tryz.prog w = .ok (.string (x ++ ⟨#[59, 113, 61]⟩)) w := fun w => run_string_add_sum w _ _ (by show x.size + 3 ≤ 9223372036854775807; omega)
    have ad2 : ∀ w, (Op.stringOp .add (x ++ (⟨#[59, 113, 61]⟩ : ByteArray)) f).run Tryz.prog w = .ok (.string y) w := fun w => by
      have := run_string_add_sum (P := Tryz.prog) w (x ++ (⟨#[59, 113, 61]⟩ : ByteArray)) f (by rw [ByteArray.size_append]; show x.size + 3 + f.size ≤ 9223372036854775807; omega)
      rw [hyq] at this; exact this
    have C0 := box (C2.new (.string x) (.int .i64 q) w 29)
    have B0 := box (below_new w (.cells #[.string x, .int .i64 q] 29))
    have T0 := box (HT.out.below B0.out)
    clear hf hyq h1
    go_enter Tryz.func19, Tryz.ntmps19
    go_wp2_with fail
    go_region_held3 (fun w' => w'.cell? ⟨w.heap.size, 0, none⟩ = some (.string x) ∧ w'.cell? ⟨w.heap.size, 1, none⟩ = some (.int .i64 q))
      (first | (exact ⟨C9.out.1.1, C9.out.1.2⟩) | (exact ⟨C0.out.1.1, C0.out.1.2⟩) | go_keep)
      (first | (go_at_call 42; refine (mFq13_is hq (T0.out.below (below_drewN _ _)) HFQ).mono ?_; rintro e w1 ⟨rfl, hb1⟩; have C9 := box ((C0.out.below (below_drewN _ _) C0.out.lt).next hb1); have B9 := box (B0.out.trans (((below_drewN _ _).trans (hb1.mono (below_drewN _ _).size)).mono B0.out.size))))
    go_wp2
    go_ret
    exact ⟨rfl, B9.out⟩
set_option maxHeartbeats 1000000 in
theorem mFmtPrefs_any (a : Option Addr) (cap : Nat) (L : List QP) (w : World) (hl : L.length ≤ 65536) (hz : Box (∀ i (hi : i < L.length), L[i].1.size ≤ 65000)) (hq : Box (∀ i (hi : i < L.length), InI64 L[i].2)) (hF : Box (Qs w a L)) (hW : Wts w) :
    Calls Tryz.prog 7 #[.slice a L.length cap] w fun e w' => e = .returned (.string (fmtPf L)) ∧ Below w.heap.size w w' := by
  have HT := box hW
  clear hW
  go_enter Tryz.func7, Tryz.ntmps7
  go_wp2
  go_loopw [3, 8] (fun v i wr => FpRel L w v i wr) (fun _ i _ => L.length - (intOf i).toNat)
  case atStart => exact ⟨0, rfl, Nat.zero_le _, OwnS.nil _ _, Below.refl _ _⟩
  case round =>
    obtain ⟨j, rfl, hj, hO, hbel⟩ := hrel
    obtain ⟨acc, hacc⟩ : ∃ acc, ((L.take j).map fun p => bs (onePref p)) = acc := ⟨_, rfl⟩
    have HACC := box hacc
    rw [hacc] at hO
    have hal : acc.length ≤ 65536 := by rw [← hacc, List.length_map, List.length_take]; omega
    obtain ⟨av, cv, rfl, _, hcv⟩ := hO.ss
    have O0 := box hO
    have BL := box hbel
    have TL := box (HT.out.below hbel)
    have QS := hF.out.below hbel
    clear hO hbel hacc
    by_cases hlt : j < L.length
    · have hji : (j : Int) < (L.length : Int) := by omega
      obtain ⟨⟨x, q⟩, hp⟩ : ∃ p, L[j] = p := ⟨_, rfl⟩
      have HNX := box (map_next (f := fun p : QP => bs (onePref p)) hlt)
      rw [HACC.out, hp] at HNX
      obtain ⟨g, off, rfl, c0, c1⟩ := QS j hlt
      rw [hp] at c0 c1
      have hxz : x.size ≤ 65000 := by have := hz.out j hlt; rw [hp] at this; exact this
      have hqi : InI64 q := by have := hq.out j hlt; rw [hp] at this; exact this
      obtain ⟨y, hy⟩ : ∃ y, bs (onePref (x, q)) = y := ⟨_, rfl⟩
      have HY := box hy
      have HE : Box (((L.take (j + 1)).map fun p => bs (onePref p)) = acc ++ [y]) := box (by rw [HNX.out, hy])
      have B2 : Box (Below w.heap.size w (wr.alloc (.cells #[.string x, .int .i64 q] 29))) := box (BL.out.alloc BL.out.size _)
      have T2 := box (HT.out.below B2.out)
      have O2 : Box (OwnS (wr.alloc (.cells #[.string x, .int .i64 q] 29)) w.heap.size (.slice av acc.length cv) acc) := box (own_below O0.out (below_new _ _))
      clear QS hp hy
      go_wp2_with fail
      refine (mfp_is hxz hqi T2.out HY).mono ?_; rintro e w3 ⟨rfl, hb3⟩
      have O3 := box (own_below O2.out hb3)
      have B3 := box (B2.out.trans (hb3.mono B2.out.size))
      clear hb3 c0 c1
      go_wp2_with (at_builtin; refine wpList_append_str _ rfl (.tmp 12) (.tmp 15) rfl w.heap.size _ acc rfl (own_below O3.out (below_new _ _)) _ _ rfl y (cell_new13 _ _ _) (by omega) (by have := B3.out.size; simp; omega) ?_)
      intro v5 w5 hO5 hb5
      have O5 := box hO5
      have B5 := box ((B3.out.alloc B3.out.size _).trans hb5)
      clear hO5 hb5
      go_wp2
      go_roundw
      case rel => exact ⟨j + 1, by go_num, hlt, by rw [HE.out]; exact O5.out, B5.out⟩
      case measure => simp [intOf]; omega
    · have hji : ¬ (j : Int) < (L.length : Int) := by omega
      have HE : Box (joinB acc = fmtPf L) := box (by unfold fmtPf; rw [← HACC.out, List.take_of_length_le (by omega)])
      have hsz : Box (∀ y ∈ acc, y.size ≤ 65536) := box (fun y hy => by
        rw [← HACC.out] at hy
        obtain ⟨p, hp, rfl⟩ := List.mem_map.1 hy
        obtain ⟨i, hi, rfl⟩ := List.getElem_of_mem (List.mem_of_mem_take hp)
        have h1 := hz.out i hi
        have h2 := fmtQ_le5 L[i].2
        rw [bs_size]
        unfold onePref
        rw [List.length_append]
        have hz2 : L[i].1.data.toList.length = L[i].1.size := by simp
        split
        · simp; omega
        · simp only [List.length_cons]; omega)
      obtain ⟨a5, c5, hv5, hS5, _⟩ := O0.out.ss
      cases hv5
      have S5 := box hS5
      clear QS hS5
      go_wp2_with fail
      refine (mJoin_any av cv acc _ hal hcv hsz S5).mono ?_; rintro e w3 ⟨rfl, hb3⟩
      have B3 := box (BL.out.trans (hb3.mono BL.out.size))
      clear hb3
      go_wp2
      go_ret
      exact ⟨by rw [← HE.out]; rfl, B3.out⟩
end
section
open Go.RowKit
theorem cell_size {w : World} {a : Addr} {v : Value} (h : w.cell? a = some v) : a.block < w.heap.size := by
  refine Nat.lt_of_not_le fun hle => ?_
  unfold World.cell? at h
  rw [Array.getElem?_eq_none hle] at h
  cases h
theorem gWeights : Tryz.prog.globalNamed "variantproxy/qvalue.weights" = some 1 := by kernel_rfl
theorem tWeights : (Tryz.prog.globals[1]?).map (·.type) = some 94 := by kernel_rfl
theorem wts_of_tab {W : World} (h : Lib.TabIs Tryz.prog W "variantproxy/qvalue.weights" .i64 [100, 10, 1]) : Wts W := by
  have c0 : W.cell? ⟨1, 0, none⟩ = some (.int .i64 100) := h.cell gWeights 0 (by decide)
  have c1 : W.cell? ⟨1, 1, none⟩ = some (.int .i64 10) := h.cell gWeights 1 (by decide)
  have c2 : W.cell? ⟨1, 2, none⟩ = some (.int .i64 1) := h.cell gWeights 2 (by decide)
  exact ⟨c0, c1, c2, cell_size c0⟩
/-- the table stands first on the row's list -/
theorem wts_of_laid {rest : List (String × DataW Unit)} {W : World} (h : laidMet Tryz.prog (("variantproxy/qvalue.weights", Lib.tabData .i64 [100, 10, 1]) :: rest) W) : Wts W :=
  wts_of_tab (Lib.tabIs_of_head gWeights tWeights Tryz.underlying94 Tryz.underlying3 (by kernel_rfl) (by kernel_rfl) h)
end
section
open Go.RowKit
def okQ (p : QP) : Bool := decide (p.1.size ≤ 100)
def keepQ (L : List QP) : Bool := L.all okQ && decide (L.length ≤ 20)
theorem keepQ_bounds {L : List QP} (h : keepQ L = true) : L.length ≤ 20 ∧ ∀ i (hi : i < L.length), L[i].1.size ≤ 100 := by
  unfold keepQ at h
  rw [Bool.and_eq_true, decide_eq_true_eq, List.all_eq_true] at h
  exact ⟨h.2, fun i hi => by have := h.1 _ (List.getElem_mem hi); unfold okQ at this; simpa using this⟩
theorem keepPrefs_any (a : Option Addr) (cap : Nat) (L : List QP) (w : World) (hl : L.length ≤ maxLen) (hF : Box (Qs w a L)) :
    Calls Tryz.prog 4 #[.slice a L.length cap] w fun e w' => e = .returned (.bool (keepQ L)) ∧ w = w' := by
  unfold maxLen at hl
  go_enter Tryz.func4, Tryz.ntmps4
  go_wp2
  go_loop [3] (fun i => ∃ k : Nat, k ≤ L.length ∧ k ≤ 21 ∧ i = .int .i64 k ∧ ∀ j (hj : j < L.length), j < k → okQ L[j] = true) (fun i => 21 - (intOf i).toNat)
  case atStart => exact ⟨0, Nat.zero_le _, Nat.zero_le _, rfl, fun j hj h => absurd h (by omega)⟩
  case round =>
    obtain ⟨k, hk, hk21, rfl, hall⟩ := hrel
    have HA := box hall
    clear hall
    by_cases hlt : k < L.length
    · have hki : (k : Int) < (L.length : Int) := by omega
      by_cases h21 : k < 21
      · have h21i : (k : Int) < 21 := by omega
        obtain ⟨g, off, rfl, c0, c1⟩ := hF.out k hlt
        obtain ⟨p, hp⟩ : ∃ p, L[k] = p := ⟨_, rfl⟩
        rw [hp] at c0 c1
        by_cases h100 : p.1.size ≤ 100
        · have h1i : ¬ (100 : Int) < (p.1.size : Int) := by omega
          have HN : Box (∀ j (hj : j < L.length), j < k + 1 → okQ L[j] = true) := box (fun j hj hjk => by
            by_cases e : j = k
            · subst e; rw [hp]; unfold okQ; exact decide_eq_true h100
            · exact HA.out j hj (by omega))
          clear hp
          go_wp2
          go_round
          case rel => exact ⟨k + 1, hlt, by omega, by go_num, HN.out⟩
          case measure => simp [intOf]; omega
        · have h1i : (100 : Int) < (p.1.size : Int) := by omega
          have HV : Box (keepQ L = false) := box (by
            unfold keepQ
            have : L.all okQ = false := by
              rw [List.all_eq_false]
              exact ⟨L[k], List.getElem_mem hlt, by rw [hp]; unfold okQ; simpa using h100⟩
            rw [this]; rfl)
          clear hp
          go_wp2
          go_ret
          exact ⟨by rw [HV.out]; rfl, rfl⟩
      · have h21i : ¬ (k : Int) < 21 := by omega
        have hli : ¬ (L.length : Int) ≤ 20 := by omega
        have HV : Box (keepQ L = false) := box (by unfold keepQ; rw [decide_eq_false (by omega), Bool.and_false])
        go_wp2
        go_ret
        exact ⟨by rw [HV.out]; rfl, rfl⟩
    · have hki : ¬ (k : Int) < (L.length : Int) := by omega
      have HV : Box (keepQ L = decide ((L.length : Int) ≤ 20)) := box (by
        unfold keepQ
        have : L.all okQ = true := by
          rw [List.all_eq_true]
          intro p hp
          obtain ⟨j, hj, rfl⟩ := List.getElem_of_mem hp
          exact HA.out j hj (by omega)
        rw [this, Bool.true_and]
        apply decide_eq_decide.2; omega)
      go_wp2
      go_ret
      exact ⟨by rw [HV.out]; first | rfl | exact ret_bool (by first | rfl | (apply decide_eq_decide.2; omega)), rfl⟩
end
end Go.Proofs.YtnpllgjkbpnimaaGreatDoor.Asc
