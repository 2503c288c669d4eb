/- The contract of the reference's Days. -/
import Derived.Test.YtdebhlbbcfcmlaaDoorDatRef
set_option linter.unusedVariables false
set_option linter.unusedSimpArgs false
set_option maxRecDepth 100000
namespace Go.Proofs.YtdebhlbbcfcmlaaDoor.Asc
open Go.RowKit

theorem leap_add {y : Nat} (h : 1970 ≤ y) : dbyN (y + 1) = dbyN y + 365 + (if leapN y then 1 else 0) := by
  rcases hl : leapN y with _ | _
  · rw [dby_flat h hl]; rfl
  · rw [dby_leap h hl]; rfl
theorem rDays_in (Y M D : Nat) (w : World) (h : IsDay Y M D) :
    Calls Tryd.prog 15 #[.int .i64 Y, .int .i64 M, .int .i64 D] w fun e w' => e = .returned (.int .i64 (dayN Y M D : Nat)) ∧ w = w' := by
  obtain ⟨⟨y1, y2⟩, ⟨m1, m2⟩, d1, d2⟩ := h
  have d3 := (len_le (leapN Y) m1 m2).1
  obtain ⟨L, hL⟩ : ∃ L, lenM (leapN Y) M = L := ⟨_, rfl⟩
  rw [hL] at d2 d3
  have HL := box hL
  have HV : Box (((D - 1 + dbyN Y : Nat) : Int) + cumM (leapN Y) M = (dayN Y M D : Nat)) := box (by unfold dayN; omega)
  have hd0 : ((D : Int) - 1) = ((D - 1 : Nat) : Int) := by omega
  have i1 : ¬ (Y : Int) < 1970 := by omega
  have i2 : ¬ (9999 : Int) < (Y : Int) := by omega
  have i3 : ¬ (M : Int) < 1 := by omega
  have i4 : ¬ (12 : Int) < (M : Int) := by omega
  have i5 : ¬ (D : Int) < 1 := by omega
  have i6 : ¬ (L : Int) < (D : Int) := by omega
  have i7 : decide (L < D) = false := decide_eq_false (by omega)
  clear hL
  go_enter Tryd.func15, Tryd.ntmps15
  go_wp2_with (go_at_call 28; refine (rLength_any _ _ _ (by omega) m1 m2).mono ?_; rintro e w' ⟨rfl, rfl⟩; rw [HL.out])
  go_loop [7, 8] (fun n i => ∃ k : Nat, 1970 ≤ k ∧ k ≤ Y ∧ i = .int .i64 k ∧ n = .int .i64 (D - 1 + dbyN k : Nat)) (fun _ i => Y - (intOf i).toNat)
  case atStart => exact ⟨1970, by omega, y1, rfl, by go_num⟩
  case round =>
    obtain ⟨k, k1, k2, rfl, rfl⟩ := hrel
    have k3 := dby_le k1 (by omega)
    by_cases hlt : k < Y
    · have hi : (k : Int) < (Y : Int) := by omega
      have k4 := dby_le (y := k + 1) (by omega) (by omega)
      rcases hl : leapN k with _ | _
      · have HK := box hl
        have HN : Box (((D - 1 + dbyN k : Nat) : Int) + 365 = ((D - 1 + dbyN (k + 1) : Nat) : Int)) := box (by rw [dby_flat k1 hl]; omega)
        clear hl
        go_wp2_with (go_at_call 29; refine (rLeap_any _ _ (by omega)).mono ?_; rintro e w' ⟨rfl, rfl⟩; rw [HK.out])
        go_round
        case rel => exact ⟨k + 1, by omega, by omega, by go_num, by rw [← HN.out]; simp only [Int.natCast_add]⟩
        case measure => simp [intOf]; omega
      · have HK := box hl
        have HN : Box (((D - 1 + dbyN k : Nat) : Int) + 365 + 1 = ((D - 1 + dbyN (k + 1) : Nat) : Int)) := box (by rw [dby_leap k1 hl]; omega)
        clear hl
        go_wp2_with (go_at_call 29; refine (rLeap_any _ _ (by omega)).mono ?_; rintro e w' ⟨rfl, rfl⟩; rw [HK.out])
        go_round
        case rel => exact ⟨k + 1, by omega, by omega, by go_num, by rw [← HN.out]; simp only [Int.natCast_add]⟩
        case measure => simp [intOf]; omega
    · have hi : ¬ (k : Int) < (Y : Int) := by omega
      obtain rfl : k = Y := by omega
      go_wp2
      go_loop [7, 9] (fun n i => ∃ j : Nat, 1 ≤ j ∧ j ≤ M ∧ i = .int .i64 j ∧ n = .int .i64 (D - 1 + dbyN k + cumM (leapN k) j : Nat)) (fun _ i => M - (intOf i).toNat)
      case atStart => exact ⟨1, by omega, m1, rfl, by rw [show cumM (leapN k) 1 = 0 from rfl]; rfl⟩
      case round =>
        obtain ⟨j, j1, j2, rfl, rfl⟩ := hrel
        have j3 := cum_le (leapN k) (m := j) (by omega)
        by_cases hjt : j < M
        · have hj : (j : Int) < (M : Int) := by omega
          have hn := cum_next (leapN k) j1
          obtain ⟨q, hq⟩ : ∃ q, lenM (leapN k) j = q := ⟨_, rfl⟩
          have q2 := (len_le (leapN k) j1 (by omega : j ≤ 12)).1
          rw [hq] at hn q2
          have HQ := box hq
          have HN : Box (((D - 1 + dbyN k + cumM (leapN k) j : Nat) : Int) + (q : Int) = ((D - 1 + dbyN k + cumM (leapN k) (j + 1) : Nat) : Int)) := box (by rw [hn]; omega)
          clear hq hn
          go_wp2_with (go_at_call 28; refine (rLength_any _ _ _ (by omega) j1 (by omega)).mono ?_; rintro e w' ⟨rfl, rfl⟩; rw [HQ.out])
          go_round
          case rel => exact ⟨j + 1, by omega, by omega, by go_num, by rw [← HN.out]; simp only [Int.natCast_add]⟩
          case measure => simp [intOf]; omega
        · have hj : ¬ (j : Int) < (M : Int) := by omega
          obtain rfl : j = M := by omega
          go_wp2
          go_ret
          exact ⟨ret_int (by have := HV.out; push_cast at this ⊢; omega), rfl⟩
theorem rDays_any (y m d : Int) (w : World) :
    Calls Tryd.prog 15 #[.int .i64 y, .int .i64 m, .int .i64 d] w fun e w' => e = .returned (.int .i64 (daysV y m d)) ∧ w = w' := by
  rcases days_cases y m d with ⟨a, b, c, rfl, rfl, rfl, hD, hV⟩ | ⟨hN, hV⟩
  · rw [hV]; exact rDays_in a b c w hD
  · rw [hV]
    by_cases c1 : y < 1970
    · go_enter Tryd.func15, Tryd.ntmps15
      go_wp2
      go_ret
      exact ⟨rfl, rfl⟩
    by_cases c2 : 9999 < y
    · go_enter Tryd.func15, Tryd.ntmps15
      go_wp2
      go_ret
      exact ⟨rfl, rfl⟩
    by_cases c3 : m < 1
    · go_enter Tryd.func15, Tryd.ntmps15
      go_wp2
      go_ret
      exact ⟨rfl, rfl⟩
    by_cases c4 : 12 < m
    · go_enter Tryd.func15, Tryd.ntmps15
      go_wp2
      go_ret
      exact ⟨rfl, rfl⟩
    by_cases c5 : d < 1
    · go_enter Tryd.func15, Tryd.ntmps15
      go_wp2
      go_ret
      exact ⟨rfl, rfl⟩
    obtain ⟨Y, rfl⟩ : ∃ Y : Nat, y = Y := ⟨y.toNat, by omega⟩
    obtain ⟨M, rfl⟩ : ∃ M : Nat, m = M := ⟨m.toNat, by omega⟩
    obtain ⟨D, rfl⟩ : ∃ D : Nat, d = D := ⟨d.toNat, by omega⟩
    have hL : lenM (leapN Y) M < D := by
      refine Nat.lt_of_not_le fun q => hN ⟨⟨by omega, by omega, by omega⟩, ⟨by omega, by omega⟩, ⟨by omega, by omega⟩, by omega, q⟩
    obtain ⟨L, hl⟩ : ∃ L, lenM (leapN Y) M = L := ⟨_, rfl⟩
    rw [hl] at hL
    have HL := box hl
    have c6 : (L : Int) < (D : Int) := by omega
    clear hl hN hV
    go_enter Tryd.func15, Tryd.ntmps15
    go_wp2_with (go_at_call 28; refine (rLength_any _ _ _ (by omega) (by omega) (by omega)).mono ?_; rintro e w' ⟨rfl, rfl⟩; rw [HL.out])
    go_ret
    exact ⟨rfl, rfl⟩

end Go.Proofs.YtdebhlbbcfcmlaaDoor.Asc
