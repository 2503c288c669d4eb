/- The walk of the law DateNext. -/
import Derived.Test.YtdebhlbbcfcmlaaDoorDatLaws
set_option linter.unusedVariables false
set_option linter.unusedSimpArgs false
set_option maxRecDepth 100000
namespace Go.Proofs.YtdebhlbbcfcmlaaDoor.Asc
open Go.RowKit

theorem next_more {y m d : Nat} (h : IsDay y m d) (hl : d < lenM (leapN y) m) : daysV (y : Int) (m : Int) ((d : Int) + 1) = ((dayN y m d : Nat) : Int) + 1 := by
  have := days_yes (y := y) (m := m) (d := d + 1) ⟨h.1, h.2.1, by omega, by omega⟩
  rw [day_more h] at this
  exact this
theorem next_none {y m d : Nat} (h : IsDay y m d) (hl : ¬ d < lenM (leapN y) m) : daysV (y : Int) (m : Int) ((d : Int) + 1) = -1 :=
  days_not (y := y) (m := m) (d := d + 1) (fun q => hl (by have := q.2.2.2; omega))
theorem next_month {y m d : Nat} (h : IsDay y m d) (hl : ¬ d < lenM (leapN y) m) (hm : m < 12) : daysV (y : Int) ((m : Int) + 1) 1 = ((dayN y m d : Nat) : Int) + 1 := by
  have hd := h.2.2.2
  have h28 := (len_le (leapN y) (by omega : 1 ≤ m + 1) (by omega : m + 1 ≤ 12)).2
  have := days_yes (y := y) (m := m + 1) (d := 1) ⟨h.1, ⟨by omega, by omega⟩, by omega, by omega⟩
  rw [day_month h (by omega)] at this
  exact this
theorem next_year {y m d : Nat} (h : IsDay y m d) (hl : ¬ d < lenM (leapN y) m) (hm : m = 12) (hy : y < 9999) : daysV ((y : Int) + 1) 1 1 = ((dayN y m d : Nat) : Int) + 1 := by
  have hd := h.2.2.2
  have h0 := h.1
  have h28 := (len_le (leapN (y + 1)) (by omega : 1 ≤ 1) (by omega : 1 ≤ 12)).2
  have := days_yes (y := y + 1) (m := 1) (d := 1) ⟨⟨by omega, by omega⟩, ⟨by omega, by omega⟩, by omega, by omega⟩
  rw [day_year h (by omega) hm] at this
  exact this
theorem next_end20 : daysV ((9999 : Int) + 1) 1 1 = -1 := days_not (y := 10000) (m := 1) (d := 1) (fun q => by have := q.1.2; omega)
theorem next20_in (y m d : Nat) (w : World) (h : IsDay y m d) (hW : Tabs w) :
    Calls Tryd.prog 7 #[.int .i64 y, .int .i64 m, .int .i64 d] w fun e w' => e = .returned (.bool true) ∧ Below w.heap.size w w' := by
  have HT := box hW
  obtain ⟨n, hn⟩ : ∃ n, dayN y m d = n := ⟨_, rfl⟩
  have n1 : n < 2932897 := cal_lt (n := n) (y := y) (m := m) (d := d) ⟨h, hn⟩
  have HV : Box (daysV (y : Int) (m : Int) (d : Int) = (n : Int)) := box (by rw [days_yes h, hn])
  have hd := h.2.2
  have d3 := (len_le (leapN y) h.2.1.1 h.2.1.2).1
  have d4 : d ≤ 31 := by omega
  have m3 := h.2.1
  have y3 := h.1
  have g0 : ¬ (n : Int) < 0 := by omega
  by_cases hl : d < lenM (leapN y) m
  · have HM : Box (daysV (y : Int) (m : Int) ((d : Int) + 1) = (n : Int) + 1) := box (by rw [← hn]; exact next_more h hl)
    have g1 : ¬ ((n : Int) + 1 < 0) := by omega
    clear hn hd d3 hl h hW
    go_enter Tryd.func7, Tryd.ntmps7
    go_wp2_with fail
    refine (mDays_is HT.out HV).mono ?_; rintro e w1 ⟨rfl, rfl⟩
    go_wp2_with fail
    refine (mDays_is HT.out HM).mono ?_; rintro e w2 ⟨rfl, rfl⟩
    go_wp2_with fail
    refine (awake20_any _ HT.out).mono ?_; rintro e w3 ⟨rfl, hb3⟩
    have B3 := box hb3
    clear hb3
    go_wp2
    go_ret
    exact ⟨rfl, B3.out⟩
  · have HM := box (next_none h hl)
    by_cases hm : m < 12
    · have HX : Box (daysV (y : Int) ((m : Int) + 1) 1 = (n : Int) + 1) := box (by rw [← hn]; exact next_month h hl hm)
      have g1 : ¬ ((n : Int) + 1 < 0) := by omega
      have g2 : (m : Int) < 12 := by omega
      clear hn hd d3 hl h hW
      go_enter Tryd.func7, Tryd.ntmps7
      go_wp2_with fail
      refine (mDays_is HT.out HV).mono ?_; rintro e w1 ⟨rfl, rfl⟩
      go_wp2_with fail
      refine (mDays_is HT.out HM).mono ?_; rintro e w2 ⟨rfl, rfl⟩
      go_wp2_with fail
      refine (mDays_is HT.out HX).mono ?_; rintro e w3 ⟨rfl, rfl⟩
      go_wp2_with fail
      refine (awake20_any _ HT.out).mono ?_; rintro e w4 ⟨rfl, hb4⟩
      have B4 := box hb4
      clear hb4
      go_wp2
      go_ret
      exact ⟨rfl, B4.out⟩
    · have g2 : ¬ (m : Int) < 12 := by omega
      by_cases hy : y < 9999
      · have HX : Box (daysV ((y : Int) + 1) 1 1 = (n : Int) + 1) := box (by rw [← hn]; exact next_year h hl (by omega) hy)
        have g1 : ¬ ((n : Int) + 1 < 0) := by omega
        clear hn hd d3 hl h hW
        go_enter Tryd.func7, Tryd.ntmps7
        go_wp2_with fail
        refine (mDays_is HT.out HV).mono ?_; rintro e w1 ⟨rfl, rfl⟩
        go_wp2_with fail
        refine (mDays_is HT.out HM).mono ?_; rintro e w2 ⟨rfl, rfl⟩
        go_wp2_with fail
        refine (mDays_is HT.out HX).mono ?_; rintro e w3 ⟨rfl, rfl⟩
        go_wp2_with fail
        refine (awake20_any _ HT.out).mono ?_; rintro e w4 ⟨rfl, hb4⟩
        have B4 := box hb4
        clear hb4
        go_wp2
        go_ret
        exact ⟨rfl, B4.out⟩
      · obtain rfl : y = 9999 := by omega
        obtain rfl : m = 12 := by omega
        have hd31 : d = 31 := by
          have : lenM (leapN 9999) 12 = 31 := by decide
          omega
        subst hd31
        have HX := box next_end20
        have g1 : ((-1 : Int) == (n : Int) + 1) = false := by rw [beq_eq_false_iff_ne]; omega
        clear hn hd d3 hl h hW
        go_enter Tryd.func7, Tryd.ntmps7
        go_wp2_with fail
        refine (mDays_is HT.out HV).mono ?_; rintro e w1 ⟨rfl, rfl⟩
        go_wp2_with fail
        refine (mDays_is HT.out HM).mono ?_; rintro e w2 ⟨rfl, rfl⟩
        go_wp2_with fail
        refine (mDays_is HT.out HX).mono ?_; rintro e w3 ⟨rfl, rfl⟩
        go_wp2_with fail
        refine (awake20_any _ HT.out).mono ?_; rintro e w4 ⟨rfl, hb4⟩
        have B4 := box hb4
        clear hb4
        go_wp2
        go_ret
        exact ⟨rfl, B4.out⟩
theorem next20_walk (y m d : Int) (w : World) (h1 : (Lit.int .i64 y).wf = true) (h2 : (Lit.int .i64 m).wf = true) (h3 : (Lit.int .i64 d).wf = true) (hW : Tabs w) :
    Calls Tryd.prog 7 #[.int .i64 y, .int .i64 m, .int .i64 d] w fun e w' => e = .returned (.bool true) ∧ Below w.heap.size w w' := by
  rcases days_cases y m d with ⟨a, b, c, rfl, rfl, rfl, hD, hV⟩ | ⟨hN, hV⟩
  · exact next20_in a b c w hD hW
  · have HT := box hW
    have HV := box hV
    clear hW hV hN h1 h2 h3
    go_enter Tryd.func7, Tryd.ntmps7
    go_wp2_with fail
    refine (mDays_is HT.out HV).mono ?_; rintro e w1 ⟨rfl, rfl⟩
    go_wp2_with fail
    refine (awake20_any _ HT.out).mono ?_; rintro e w3 ⟨rfl, hb3⟩
    have B3 := box hb3
    clear hb3
    go_wp2
    go_ret
    exact ⟨rfl, B3.out⟩

end Go.Proofs.YtdebhlbbcfcmlaaDoor.Asc
