/- The walks of the laws of stage 12. -/
import Derived.Test.YtfhfiejimljcnaaCodMine
set_option linter.unusedVariables false
set_option linter.unusedSimpArgs false
set_option maxRecDepth 100000
namespace Go.Proofs.Ytfhfiejimljcnaa.Asc
open Go.RowKit

theorem mCan_is {k : Int} {s x : ByteArray} {w : World} (hk : InI64 k) (hs : s.size ≤ 65536) (h : Box (bs (canL k s.data.toList) = x)) :
    Calls Try.prog 5 #[.int .i64 k, .string s] w fun e w' => e = .returned (.string x) ∧ Below w.heap.size w w' :=
  (mCan_any k s w hk hs).mono fun e w' ⟨h1, h2⟩ => ⟨by rw [h1, h.out], h2⟩
theorem mMatchC_is {k i : Int} {r v : ByteArray} {w : World} (hk : InI64 k) (hr : r.size ≤ 65536) (hv : v.size ≤ 65536) (h : Box (matchC k r.data.toList v.data.toList = i)) :
    Calls Try.prog 7 #[.int .i64 k, .string r, .string v] w fun e w' => e = .returned (.int .i64 i) ∧ Below w.heap.size w w' :=
  (mMatchC_any k r v w hk hr hv).mono fun e w' ⟨h1, h2⟩ => ⟨by rw [h1, h.out], h2⟩
theorem aw12 : matchC 4 (⟨#[88, 45, 71, 90, 73, 80]⟩ : ByteArray).data.toList (⟨#[103, 122, 105, 112]⟩ : ByteArray).data.toList = 1 := by decide +kernel
theorem awake12_any (w : World) : Calls Try.prog 9 #[] w fun e w' => e = .returned (.bool true) ∧ Below w.heap.size w w' := by
  have H := box aw12
  go_enter Try.func9, Try.ntmps9
  go_wp2_with fail
  refine (mMatchC_is ⟨by omega, by omega⟩ (by decide) (by decide) H).mono ?_; rintro e w1 ⟨rfl, hb1⟩
  go_wp2
  go_ret
  exact ⟨rfl, hb1⟩
theorem in12 {n : Int} (h : (Lit.int .i64 n).wf = true) : InI64 n := by
  unfold InI64
  simp [Lit.wf, IntKind.min, IntKind.max, IntKind.bits, IntKind.signed] at h
  omega
theorem matches12_walk (k : Int) (r v : ByteArray) (w : World) (hk : (Lit.int .i64 k).wf = true) (S : r.size ≤ maxLen) (S2 : v.size ≤ maxLen) :
    Calls Try.prog 3 #[.int .i64 k, .string r, .string v] w fun e w' => e = .returned (.bool true) ∧ Below w.heap.size w w' := by
  have HI := in12 hk
  unfold maxLen at S S2
  by_cases h1 : 1000 < r.size
  · have i1 : (1000 : Int) < (r.size : Int) := by omega
    go_enter Try.func3, Try.ntmps3
    go_wp2
    go_ret
    exact ⟨rfl, Below.refl _ _⟩
  · have i1 : ¬ (1000 : Int) < (r.size : Int) := by omega
    by_cases h2 : 1000 < v.size
    · have i2 : (1000 : Int) < (v.size : Int) := by omega
      go_enter Try.func3, Try.ntmps3
      go_wp2
      go_ret
      exact ⟨rfl, Below.refl _ _⟩
    · have i2 : ¬ (1000 : Int) < (v.size : Int) := by omega
      have hr : r.size ≤ 65536 := by omega
      have hv : v.size ≤ 65536 := by omega
      obtain ⟨x, hx⟩ : ∃ x, bs (canL k r.data.toList) = x := ⟨_, rfl⟩
      obtain ⟨m, hm⟩ : ∃ m, matchC k r.data.toList v.data.toList = m := ⟨_, rfl⟩
      have HX := box hx
      have HM := box hm
      have e1 : (x.toList == x.toList) = true := by simp
      have e2 : (m == m) = true := by simp
      clear hx hm
      go_enter Try.func3, Try.ntmps3
      go_wp2_with fail
      refine (mCan_is HI hr HX).mono ?_; rintro e w1 ⟨rfl, hb1⟩
      have B1 := box hb1
      clear hb1
      go_wp2_with fail
      refine (rCan_is HI hr HX).mono ?_; rintro e w2 ⟨rfl, hb2⟩
      have B2 := box (B1.out.trans (hb2.mono B1.out.size))
      clear hb2
      go_wp2_with fail
      refine (mMatchC_is HI hr hv HM).mono ?_; rintro e w3 ⟨rfl, hb3⟩
      have B3 := box (B2.out.trans (hb3.mono B2.out.size))
      clear hb3
      go_wp2_with fail
      refine (rMatchC_is HI hr hv HM).mono ?_; rintro e w4 ⟨rfl, hb4⟩
      have B4 := box (B3.out.trans (hb4.mono B3.out.size))
      clear hb4
      go_wp2_with fail
      refine (awake12_any _).mono ?_; rintro e w5 ⟨rfl, hb5⟩
      have B5 := box (B4.out.trans (hb5.mono B4.out.size))
      clear hb5
      go_wp2
      go_ret
      exact ⟨rfl, B5.out⟩

theorem aliases12_walk (k : Int) (x y : ByteArray) (w : World) (hk : (Lit.int .i64 k).wf = true) (S : x.size ≤ maxLen) (S2 : y.size ≤ maxLen) :
    Calls Try.prog 4 #[.int .i64 k, .string x, .string y] w fun e w' => e = .returned (.bool true) ∧ Below w.heap.size w w' := by
  have HI := in12 hk
  have hst := star12 (s := x)
  have hsu := star12 (s := y)
  unfold maxLen at S S2
  by_cases h1 : 300 < x.size
  · have i1 : (300 : Int) < (x.size : Int) := by omega
    clear hst hsu
    go_enter Try.func4, Try.ntmps4
    go_wp2
    go_ret
    exact ⟨rfl, Below.refl _ _⟩
  · have i1 : ¬ (300 : Int) < (x.size : Int) := by omega
    by_cases h2 : 300 < y.size
    · have i2 : (300 : Int) < (y.size : Int) := by omega
      clear hst hsu
      go_enter Try.func4, Try.ntmps4
      go_wp2
      go_ret
      exact ⟨rfl, Below.refl _ _⟩
    · have i2 : ¬ (300 : Int) < (y.size : Int) := by omega
      by_cases h3 : x.data.toList = [42]
      · rw [decide_eq_true h3] at hst
        clear hsu h3
        go_enter Try.func4, Try.ntmps4
        go_wp2
        go_ret
        exact ⟨rfl, Below.refl _ _⟩
      · rw [decide_eq_false h3] at hst
        by_cases h4 : y.data.toList = [42]
        · rw [decide_eq_true h4] at hsu
          clear h3 h4
          go_enter Try.func4, Try.ntmps4
          go_wp2
          go_ret
          exact ⟨rfl, Below.refl _ _⟩
        · rw [decide_eq_false h4] at hsu
          have hx6 : x.size ≤ 65536 := by omega
          have hy6 : y.size ≤ 65536 := by omega
          have hx4 : x.size ≤ 4294967296 := by omega
          obtain ⟨c, hc⟩ : ∃ c, bs (canL k x.data.toList) = c := ⟨_, rfl⟩
          obtain ⟨l, hl⟩ : ∃ l, bs (lowL x.data.toList) = l := ⟨_, rfl⟩
          have hc6 : c.size ≤ 65536 := by rw [← hc, bs_size]; have := can_len k x.data.toList; have hz : x.data.toList.length = x.size := by simp
                                          omega
          have hl6 : l.size ≤ 65536 := by rw [← hl, bs_size]; simp [lowL]; omega
          obtain ⟨m, hm⟩ : ∃ m, matchC k x.data.toList y.data.toList = m := ⟨_, rfl⟩
          have HC := box hc
          have HL := box hl
          have HC2 : Box (bs (canL k c.data.toList) = c) := box (by rw [← hc, bs_toList, can_can])
          have HC3 : Box (bs (canL k l.data.toList) = c) := box (by rw [← hl, bs_toList, can_low, hc])
          have HM := box hm
          have HM2 : Box (matchC k y.data.toList x.data.toList = m) := box (by rw [matchC_symm h3 h4, hm])
          have HM3 : Box (matchC k x.data.toList c.data.toList = 1) := box (by rw [← hc, bs_toList, matchC_self h3])
          have e1 : (c.toList == c.toList) = true := by simp
          have e2 : (m == m) = true := by simp
          clear hc hl hm h3 h4
          go_enter Try.func4, Try.ntmps4
          go_wp2_with fail
          refine (mCan_is HI hx6 HC).mono ?_; rintro e w1 ⟨rfl, hb1⟩
          have B1 := box hb1
          clear hb1
          go_wp2_with fail
          refine (mCan_is HI hc6 HC2).mono ?_; rintro e w2 ⟨rfl, hb2⟩
          have B2 := box (B1.out.trans (hb2.mono B1.out.size))
          clear hb2
          go_wp2_with fail
          refine (rLow12_is hx4 HL).mono ?_; rintro e w3 ⟨rfl, hb3⟩
          have B3 := box (B2.out.trans (hb3.mono B2.out.size))
          clear hb3
          go_wp2_with fail
          refine (mCan_is HI hl6 HC3).mono ?_; rintro e w4 ⟨rfl, hb4⟩
          have B4 := box (B3.out.trans (hb4.mono B3.out.size))
          clear hb4
          go_wp2_with fail
          refine (mMatchC_is HI hx6 hy6 HM).mono ?_; rintro e w5 ⟨rfl, hb5⟩
          have B5 := box (B4.out.trans (hb5.mono B4.out.size))
          clear hb5
          go_wp2_with fail
          refine (mMatchC_is HI hy6 hx6 HM2).mono ?_; rintro e w6 ⟨rfl, hb6⟩
          have B6 := box (B5.out.trans (hb6.mono B5.out.size))
          clear hb6
          go_wp2_with fail
          refine (mMatchC_is HI hx6 hc6 HM3).mono ?_; rintro e w7 ⟨rfl, hb7⟩
          have B7 := box (B6.out.trans (hb7.mono B6.out.size))
          clear hb7
          go_wp2_with fail
          refine (awake12_any _).mono ?_; rintro e w8 ⟨rfl, hb8⟩
          have B8 := box (B7.out.trans (hb8.mono B7.out.size))
          clear hb8
          go_wp2
          go_ret
          exact ⟨rfl, B8.out⟩

end Go.Proofs.Ytfhfiejimljcnaa.Asc
