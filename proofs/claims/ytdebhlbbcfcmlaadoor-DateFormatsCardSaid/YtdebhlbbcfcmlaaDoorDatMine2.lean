/- The contracts of package date's exists, Days, calendarDay, over the developers' code of 00e4332. -/
import Derived.Test.YtdebhlbbcfcmlaaDoorDatMine
import Derived.OwnWalk
set_option linter.unusedVariables false
set_option linter.unusedSimpArgs false
set_option maxRecDepth 100000
namespace Go.Proofs.YtdebhlbbcfcmlaaDoor.Asc
open Go.RowKit

theorem mExists_yes (Y M D : Nat) (w : World) (hW : Tabs w) (h : IsDay Y M D) :
    Calls Tryd.prog 25 #[.int .i64 Y, .int .i64 M, .int .i64 D] w fun e w' => e = .returned (.bool true) ∧ w = w' := by
  obtain ⟨⟨y1, y2⟩, ⟨m1, m2⟩, d1, d2⟩ := h
  obtain ⟨L, hL⟩ : ∃ L, lenM (leapN Y) M = L := ⟨_, rfl⟩
  rw [hL] at d2
  have HL := box hL
  have HT := box hW
  have i1 : ¬ (Y : Int) < 1970 := by omega
  have i2 : ¬ (9999 : Int) < (Y : Int) := by omega
  have i3 : ¬ (M : Int) < 1 := by omega
  have i4 : ¬ (12 : Int) < (M : Int) := by omega
  have i5 : (1 : Int) ≤ (D : Int) := by omega
  have i6 : (D : Int) ≤ (L : Int) := by omega
  clear hL hW
  go_enter Tryd.func25, Tryd.ntmps25
  go_wp2_with (go_at_call 27; refine (mLength_is HT.out (by omega) (by omega) m1 m2 HL).mono ?_; rintro e w' ⟨rfl, rfl⟩)
  go_ret
  exact ⟨ret_bool (by first | rfl | exact decide_eq_true (by omega)), rfl⟩
theorem mExists_no (y m d : Int) (w : World) (hW : Tabs w) (hN : ¬ ((0 ≤ y ∧ 0 ≤ m ∧ 0 ≤ d) ∧ IsDay y.toNat m.toNat d.toNat)) :
    Calls Tryd.prog 25 #[.int .i64 y, .int .i64 m, .int .i64 d] w fun e w' => e = .returned (.bool false) ∧ w = w' := by
  have HT := box hW
  have HN := box hN
  clear hW hN
  by_cases c1 : y < 1970
  · go_enter Tryd.func25, Tryd.ntmps25
    go_wp2
    go_ret
    exact ⟨rfl, rfl⟩
  by_cases c2 : 9999 < y
  · go_enter Tryd.func25, Tryd.ntmps25
    go_wp2
    go_ret
    exact ⟨rfl, rfl⟩
  by_cases c3 : m < 1
  · go_enter Tryd.func25, Tryd.ntmps25
    go_wp2
    go_ret
    exact ⟨rfl, rfl⟩
  by_cases c4 : 12 < m
  · go_enter Tryd.func25, Tryd.ntmps25
    go_wp2
    go_ret
    exact ⟨rfl, rfl⟩
  obtain ⟨Y, rfl⟩ : ∃ Y : Nat, y = Y := ⟨y.toNat, by omega⟩
  obtain ⟨M, rfl⟩ : ∃ M : Nat, m = M := ⟨m.toNat, by omega⟩
  by_cases c5 : d < 1
  · have c6 : ¬ (1 : Int) ≤ d := by omega
    go_enter Tryd.func25, Tryd.ntmps25
    go_wp2
    go_ret
    exact ⟨ret_bool (by first | rfl | exact decide_eq_false (by omega)), rfl⟩
  obtain ⟨D, rfl⟩ : ∃ D : Nat, d = D := ⟨d.toNat, by omega⟩
  have hL : lenM (leapN Y) M < D := by
    refine Nat.lt_of_not_le fun q => HN.out ⟨⟨by omega, by omega, by omega⟩, ⟨by omega, by omega⟩, ⟨by omega, by omega⟩, by omega, q⟩
  obtain ⟨L, hl⟩ : ∃ L, lenM (leapN Y) M = L := ⟨_, rfl⟩
  rw [hl] at hL
  have HL := box hl
  have c6 : (1 : Int) ≤ (D : Int) := by omega
  have c7 : ¬ (D : Int) ≤ (L : Int) := by omega
  clear hl HN
  go_enter Tryd.func25, Tryd.ntmps25
  go_wp2_with (go_at_call 27; refine (mLength_is HT.out (by omega) (by omega) (by omega) (by omega) HL).mono ?_; rintro e w' ⟨rfl, rfl⟩)
  go_ret
  exact ⟨ret_bool (by first | rfl | exact decide_eq_false (by omega)), rfl⟩
theorem mDays_in (Y M D : Nat) (w : World) (hW : Tabs w) (h : IsDay Y M D) :
    Calls Tryd.prog 14 #[.int .i64 Y, .int .i64 M, .int .i64 D] w fun e w' => e = .returned (.int .i64 (dayN Y M D : Nat)) ∧ w = w' := by
  have HI := box h
  obtain ⟨⟨y1, y2⟩, ⟨m1, m2⟩, d1, d2⟩ := h
  have d3 := (len_le (leapN Y) m1 m2).1
  obtain ⟨B, hB⟩ : ∃ B, dbyN Y = B := ⟨_, rfl⟩
  have hb := dby_le y1 (by omega)
  rw [hB] at hb
  have HB := box hB
  have HT := box hW
  have HV : Box ((B : Int) + D - 1 + cumM (leapN Y) M = (dayN Y M D : Nat)) := box (by unfold dayN; omega)
  have hd0 : (B : Int) + (D : Int) - 1 = ((B + (D - 1) : Nat) : Int) := by omega
  have hd4 : D ≤ 31 := by omega
  clear hB hW d2 d3
  go_enter Tryd.func14, Tryd.ntmps14
  go_wp2_with fail
  refine (mExists_yes _ _ _ _ HT.out HI.out).mono ?_; rintro e w1 ⟨rfl, rfl⟩
  go_wp2_with fail
  refine (mDby_is rfl y1 (by omega) HB).mono ?_; rintro e w2 ⟨rfl, rfl⟩
  go_wp2
  go_loop [7, 8] (fun n i => ∃ j : Nat, 1 ≤ j ∧ j ≤ M ∧ i = .int .i64 j ∧ n = .int .i64 (B + (D - 1) + cumM (leapN Y) j : Nat)) (fun _ i => M - (intOf i).toNat)
  case atStart => exact ⟨1, by omega, m1, rfl, by rw [show cumM (leapN Y) 1 = 0 from rfl]; rfl⟩
  case round =>
    obtain ⟨j, j1, j2, rfl, rfl⟩ := hrel
    have j3 := cum_le (leapN Y) (m := j) (by omega)
    by_cases hjt : j < M
    · have hj : (j : Int) < (M : Int) := by omega
      have hn := cum_next (leapN Y) j1
      obtain ⟨q, hq⟩ : ∃ q, lenM (leapN Y) j = q := ⟨_, rfl⟩
      have q2 := (len_le (leapN Y) j1 (by omega : j ≤ 12)).1
      rw [hq] at hn q2
      have HQ := box hq
      have HN : Box (((B + (D - 1) + cumM (leapN Y) j : Nat) : Int) + (q : Int) = ((B + (D - 1) + cumM (leapN Y) (j + 1) : Nat) : Int)) := box (by rw [hn]; omega)
      clear hq hn
      go_wp2_with (go_at_call 27; refine (mLength_is HT.out (by omega) (by omega) j1 (by omega) HQ).mono ?_; rintro e w' ⟨rfl, rfl⟩)
      go_round
      case rel => exact ⟨j + 1, by omega, by omega, by go_num, by rw [← HN.out]; simp only [Int.natCast_add]⟩
      case measure => simp [intOf]; omega
    · have hj : ¬ (j : Int) < (M : Int) := by omega
      obtain rfl : j = M := by omega
      go_wp2
      go_ret
      exact ⟨ret_int (by have := HV.out; push_cast at this ⊢; omega), rfl⟩
theorem mDays_any (y m d : Int) (w : World) (hW : Tabs w) :
    Calls Tryd.prog 14 #[.int .i64 y, .int .i64 m, .int .i64 d] w fun e w' => e = .returned (.int .i64 (daysV y m d)) ∧ w = w' := by
  rcases days_cases y m d with ⟨a, b, c, rfl, rfl, rfl, hD, hV⟩ | ⟨hN, hV⟩
  · rw [hV]; exact mDays_in a b c w hW hD
  · rw [hV]
    have HT := box hW
    have HN := box hN
    clear hW hN hV
    go_enter Tryd.func14, Tryd.ntmps14
    go_wp2_with fail
    refine (mExists_no _ _ _ _ HT.out HN.out).mono ?_; rintro e w1 ⟨rfl, rfl⟩
    go_wp2
    go_ret
    exact ⟨rfl, rfl⟩
theorem mDays_is {y m d v : Int} {w : World} (hW : Tabs w) (h : Box (daysV y m d = v)) :
    Calls Tryd.prog 14 #[.int .i64 y, .int .i64 m, .int .i64 d] w fun e w' => e = .returned (.int .i64 v) ∧ w = w' :=
  (mDays_any y m d w hW).mono fun e w' ⟨h1, h2⟩ => ⟨by rw [h1, h.out], h2⟩
theorem mCal_any (n y m d : Nat) (w : World) (hW : Tabs w) (hc : IsCal n y m d) :
    Calls Tryd.prog 19 #[.int .i64 n] w fun e w' => e = .returned (.tuple #[.int .i64 y, .int .i64 m, .int .i64 d]) ∧ w = w' := by
  have hn := cal_lt hc
  have HC := box hc
  have HT := box hW
  obtain ⟨⟨y1, y2⟩, ⟨m1, m2⟩, _⟩ := hc.1
  obtain ⟨q, hq⟩ : ∃ q, n / 366 = q := ⟨_, rfl⟩
  have hq1 : (n : Int) / 366 = (q : Int) := by omega
  have q1 : 1970 + q ≤ y := by
    have h1 := dby_first n
    rw [hq] at h1
    have h2 := cal_year hc
    refine Nat.le_of_not_lt fun h => ?_
    have := dby_mono (by omega) (by omega : y + 1 ≤ 1970 + q)
    omega
  clear hc hW hq
  go_enter Tryd.func19, Tryd.ntmps19
  go_wp2
  go_loop [5] (fun i => ∃ k : Nat, 1970 ≤ k ∧ k ≤ y ∧ i = .int .i64 k) (fun i => y - (intOf i).toNat)
  case atStart => exact ⟨1970 + q, by omega, q1, by go_num⟩
  case round =>
    obtain ⟨k, k1, k2, rfl⟩ := hrel
    obtain ⟨X, hX⟩ : ∃ X, dbyN (k + 1) = X := ⟨_, rfl⟩
    have HX := box hX
    have hx := dby_le (y := k + 1) (by omega) (by omega)
    have hlt := year_lt HC.out k1
    rw [hX] at hx hlt
    by_cases h : k < y
    · have hg : (X : Int) ≤ (n : Int) := by have := hlt.1 h; omega
      clear hX hlt
      go_wp2_with fail
      refine (mDby_is (y := k + 1) (by omega) (by omega) (by omega) HX).mono ?_; rintro e w1 ⟨rfl, rfl⟩
      go_wp2
      go_round
      case rel => exact ⟨k + 1, by omega, by omega, by go_num⟩
      case measure => simp [intOf]; omega
    · have hg : ¬ (X : Int) ≤ (n : Int) := by
        have := mt hlt.2 h
        omega
      obtain rfl : k = y := by omega
      obtain ⟨B, hB⟩ : ∃ B, dbyN k = B := ⟨_, rfl⟩
      have HB := box hB
      have hBn := (cal_year HC.out).1
      rw [hB] at hBn
      clear hX hlt hB
      go_wp2_with fail
      refine (mDby_is (y := k + 1) (by omega) (by omega) (by omega) HX).mono ?_; rintro e w1 ⟨rfl, rfl⟩
      go_wp2_with fail
      refine (mDby_is (y := k) rfl (by omega) (by omega) HB).mono ?_; rintro e w2 ⟨rfl, rfl⟩
      go_wp2
      go_loop [6, 7] (fun i r => ∃ j u : Nat, 1 ≤ j ∧ j ≤ m ∧ i = .int .i64 j ∧ r = .int .i64 u ∧ B + cumM (leapN k) j + u = n + 1) (fun i _ => m - (intOf i).toNat)
      case atStart => exact ⟨1, n - B + 1, by omega, m1, rfl, by go_num, by rw [show cumM (leapN k) 1 = 0 from rfl]; omega⟩
      case round =>
        obtain ⟨j, u, j1, j2, rfl, rfl, hu⟩ := hrel
        have hl := month_lt HC.out j1
        have hnx := cum_next (leapN k) j1
        obtain ⟨L, hL⟩ : ∃ L, lenM (leapN k) j = L := ⟨_, rfl⟩
        have HL := box hL
        rw [HB.out] at hl
        rw [hL] at hnx
        rw [hnx] at hl
        have HNX := box hnx
        by_cases hj : j < m
        · have g1 : (L : Int) < (u : Int) := by have := hl.1 hj; omega
          have HU : Box (B + cumM (leapN k) (j + 1) + (u - L) = n + 1) := box (by rw [hnx]; omega)
          have hu2 : (u : Int) - (L : Int) = ((u - L : Nat) : Int) := by omega
          have hu3 : u - L ≤ 3000000 := by omega
          clear hl hnx hL hu
          go_wp2_with fail
          refine (mLength_is HT.out (by omega) (by omega) j1 (by omega) HL).mono ?_; rintro e w3 ⟨rfl, rfl⟩
          go_wp2_with fail
          refine (mLength_is HT.out (by omega) (by omega) j1 (by omega) HL).mono ?_; rintro e w4 ⟨rfl, rfl⟩
          go_wp2
          go_round
          case rel => exact ⟨j + 1, u - L, by omega, by omega, by go_num, by go_num, HU.out⟩
          case measure => simp [intOf]; omega
        · have g1 : ¬ (L : Int) < (u : Int) := by have := mt hl.2 hj; omega
          obtain rfl : j = m := by omega
          have hr := cal_range HC.out
          have HD : Box (d = u) := box (by rw [HB.out] at hr; omega)
          clear hl hnx hL hu hr
          go_wp2_with fail
          refine (mLength_is HT.out (by omega) (by omega) j1 (by omega) HL).mono ?_; rintro e w3 ⟨rfl, rfl⟩
          go_wp2
          go_ret3
          exact ⟨by rw [HD.out]; rfl, rfl⟩

end Go.Proofs.YtdebhlbbcfcmlaaDoor.Asc
