/- Plain functions of layer 20: the days of years and of months, and which day is the n-th. No program is named here. -/
import Derived.Test.YtdebhlbbcfcmlaaDoorStaSpec
set_option linter.unusedVariables false
set_option linter.unusedSimpArgs false
set_option maxRecDepth 100000
namespace Go.Proofs.YtdebhlbbcfcmlaaDoor.Asc

/-- the leap years from the year 1 to the one before y -/
def lybN (y : Nat) : Nat := (y - 1) / 4 - (y - 1) / 100 + (y - 1) / 400
def leapN (y : Nat) : Bool := y % 4 == 0 && (y % 100 != 0 || y % 400 == 0)
/-- the days from the beginning of 1970 to that of the year y -/
def dbyN (y : Nat) : Nat := 365 * (y - 1970) + (lybN y - 477)
def lenM (lp : Bool) (m : Nat) : Nat := [31, if lp then 29 else 28, 31, 30, 31, 30, 31, 31, 30, 31, 30, 31].getD (m - 1) 0
/-- the days of the months before m -/
def cumM (lp : Bool) : Nat → Nat
  | 0 => 0
  | 1 => 0
  | m + 2 => cumM lp (m + 1) + lenM lp (m + 1)
theorem leap_iff (y : Nat) : leapN y = true ↔ y % 4 = 0 ∧ (y % 100 ≠ 0 ∨ y % 400 = 0) := by
  unfold leapN; simp
theorem leap_not (y : Nat) : leapN y = false ↔ ¬ (y % 4 = 0 ∧ (y % 100 ≠ 0 ∨ y % 400 = 0)) := by
  rw [← leap_iff]; simp
theorem lyb_leap {y : Nat} (h : 1 ≤ y) (hl : leapN y = true) : lybN (y + 1) = lybN y + 1 := by
  have := (leap_iff y).1 hl
  unfold lybN; omega
theorem lyb_flat {y : Nat} (h : 1 ≤ y) (hl : leapN y = false) : lybN (y + 1) = lybN y := by
  have := (leap_not y).1 hl
  unfold lybN; omega
theorem lyb_mono {a b : Nat} (h1 : 1 ≤ a) (h : a ≤ b) : lybN a ≤ lybN b := by
  induction b with
  | zero => omega
  | succ b ih =>
    by_cases e : a = b + 1
    · subst e; exact Nat.le_refl _
    · have := ih (by omega)
      rcases hl : leapN b with _ | _
      · rw [lyb_flat (by omega) hl]; exact this
      · rw [lyb_leap (by omega) hl]; omega
theorem lyb_1970 : lybN 1970 = 477 := by decide
theorem lyb_ge {y : Nat} (h : 1970 ≤ y) : 477 ≤ lybN y := by rw [← lyb_1970]; exact lyb_mono (by omega) h
theorem lyb_le (y : Nat) : lybN y ≤ y := by unfold lybN; omega
theorem dby_leap {y : Nat} (h : 1970 ≤ y) (hl : leapN y = true) : dbyN (y + 1) = dbyN y + 366 := by
  have h1 := lyb_ge h
  have h2 := lyb_leap (by omega) hl
  unfold dbyN; omega
theorem dby_flat {y : Nat} (h : 1970 ≤ y) (hl : leapN y = false) : dbyN (y + 1) = dbyN y + 365 := by
  have h1 := lyb_ge h
  have h2 := lyb_flat (by omega) hl
  unfold dbyN; omega
theorem dby_1970 : dbyN 1970 = 0 := by decide
theorem dby_10000 : dbyN 10000 = 2932897 := by decide
theorem cum_13 (lp : Bool) : cumM lp 13 = if lp then 366 else 365 := by cases lp <;> rfl
theorem dby_next {y : Nat} (h : 1970 ≤ y) : dbyN (y + 1) = dbyN y + cumM (leapN y) 13 := by
  rw [cum_13]
  rcases hl : leapN y with _ | _
  · exact dby_flat h hl
  · exact dby_leap h hl
theorem dby_mono {a b : Nat} (h1 : 1970 ≤ a) (h : a ≤ b) : dbyN a ≤ dbyN b := by
  have := lyb_mono (by omega : 1 ≤ a) h
  unfold dbyN; omega
theorem dby_le {y : Nat} (h : 1970 ≤ y) (h2 : y ≤ 10001) : dbyN y ≤ 2940000 := by
  have := dby_mono h h2
  have : dbyN 10001 = 2933263 := by decide
  omega
/-- the first year to look at is none too late -/
theorem dby_first (n : Nat) : dbyN (1970 + n / 366) ≤ n := by
  have h : ∀ k, dbyN (1970 + k) ≤ 366 * k := by
    intro k
    induction k with
    | zero => decide
    | succ k ih =>
      rcases hl : leapN (1970 + k) with _ | _
      · rw [show 1970 + (k + 1) = 1970 + k + 1 from rfl, dby_flat (by omega) hl]; omega
      · rw [show 1970 + (k + 1) = 1970 + k + 1 from rfl, dby_leap (by omega) hl]; omega
  have := h (n / 366)
  omega

theorem cum_next (lp : Bool) {m : Nat} (h : 1 ≤ m) : cumM lp (m + 1) = cumM lp m + lenM lp m := by
  obtain ⟨k, rfl⟩ : ∃ k, m = k + 1 := ⟨m - 1, by omega⟩
  rfl
theorem cum_mono (lp : Bool) {a b : Nat} (h1 : 1 ≤ a) (h : a ≤ b) : cumM lp a ≤ cumM lp b := by
  induction b with
  | zero => omega
  | succ b ih =>
    by_cases e : a = b + 1
    · subst e; exact Nat.le_refl _
    · have := ih (by omega)
      rw [cum_next lp (by omega)]; omega
theorem cum_le (lp : Bool) {m : Nat} (h : m ≤ 13) : cumM lp m ≤ 366 := by
  have key : ∀ (b : Bool) (k : Fin 14), cumM b k.1 ≤ 366 := by decide
  exact key lp ⟨m, by omega⟩
theorem len_le (lp : Bool) {m : Nat} (h1 : 1 ≤ m) (h : m ≤ 12) : lenM lp m ≤ 31 ∧ 28 ≤ lenM lp m := by
  have key : ∀ (b : Bool) (k : Fin 13), 1 ≤ k.1 → lenM b k.1 ≤ 31 ∧ 28 ≤ lenM b k.1 := by decide
  exact key lp ⟨m, by omega⟩ h1

/-- the calendar has this day -/
def IsDay (y m d : Nat) : Prop := (1970 ≤ y ∧ y ≤ 9999) ∧ (1 ≤ m ∧ m ≤ 12) ∧ 1 ≤ d ∧ d ≤ lenM (leapN y) m
instance (y m d : Nat) : Decidable (IsDay y m d) := by unfold IsDay; infer_instance
def dayN (y m d : Nat) : Nat := dbyN y + cumM (leapN y) m + (d - 1)
/-- day n is the day d of the month m of the year y -/
def IsCal (n y m d : Nat) : Prop := IsDay y m d ∧ dayN y m d = n
def daysV (y m d : Int) : Int := if (0 ≤ y ∧ 0 ≤ m ∧ 0 ≤ d) ∧ IsDay y.toNat m.toNat d.toNat then (dayN y.toNat m.toNat d.toNat : Nat) else -1
theorem days_yes {y m d : Nat} (h : IsDay y m d) : daysV y m d = (dayN y m d : Nat) := by
  unfold daysV; rw [if_pos ⟨⟨by omega, by omega, by omega⟩, h⟩]; rfl
theorem days_no {y m d : Int} (h : ¬ ((0 ≤ y ∧ 0 ≤ m ∧ 0 ≤ d) ∧ IsDay y.toNat m.toNat d.toNat)) : daysV y m d = -1 := by
  unfold daysV; rw [if_neg h]
theorem days_cases (y m d : Int) : (∃ a b c : Nat, y = a ∧ m = b ∧ d = c ∧ IsDay a b c ∧ daysV y m d = (dayN a b c : Nat)) ∨ (¬ ((0 ≤ y ∧ 0 ≤ m ∧ 0 ≤ d) ∧ IsDay y.toNat m.toNat d.toNat) ∧ daysV y m d = -1) := by
  by_cases h : (0 ≤ y ∧ 0 ≤ m ∧ 0 ≤ d) ∧ IsDay y.toNat m.toNat d.toNat
  · refine .inl ⟨y.toNat, m.toNat, d.toNat, by omega, by omega, by omega, h.2, ?_⟩
    unfold daysV; rw [if_pos h]
  · exact .inr ⟨h, days_no h⟩
theorem days_not {y m d : Nat} (h : ¬ IsDay y m d) : daysV y m d = -1 := days_no fun q => h q.2
theorem cal_range {n y m d : Nat} (h : IsCal n y m d) : dbyN y + cumM (leapN y) m ≤ n ∧ n < dbyN y + cumM (leapN y) (m + 1) ∧ d = n - dbyN y - cumM (leapN y) m + 1 := by
  obtain ⟨⟨hy, hm, hd⟩, rfl⟩ := h
  have := cum_next (leapN y) hm.1
  unfold dayN; omega
theorem cal_year {n y m d : Nat} (h : IsCal n y m d) : dbyN y ≤ n ∧ n < dbyN (y + 1) := by
  have h1 := cal_range h
  obtain ⟨⟨hy, hm, hd⟩, _⟩ := h
  have h2 := dby_next hy.1
  have h3 := cum_mono (leapN y) (by omega : 1 ≤ m + 1) (by omega : m + 1 ≤ 13)
  omega
theorem cal_lt {n y m d : Nat} (h : IsCal n y m d) : n < 2932897 := by
  have h1 := cal_year h
  have := dby_mono (by have := h.1.1; omega) (by have := h.1.1; omega : y + 1 ≤ 10000)
  rw [dby_10000] at this; omega
/-- the year that is looked at is too early exactly if the next one has begun -/
theorem year_lt {n y m d x : Nat} (h : IsCal n y m d) (hx : 1970 ≤ x) : x < y ↔ dbyN (x + 1) ≤ n := by
  have h1 := cal_year h
  constructor
  · intro q; have := dby_mono (by omega) (by omega : x + 1 ≤ y); omega
  · intro q
    refine Nat.lt_of_not_le fun hle => ?_
    have := dby_mono (by have := h.1.1; omega) (by omega : y + 1 ≤ x + 1)
    omega
theorem month_lt {n y m d x : Nat} (h : IsCal n y m d) (hx : 1 ≤ x) : x < m ↔ dbyN y + cumM (leapN y) (x + 1) ≤ n := by
  have h1 := cal_range h
  constructor
  · intro q; have := cum_mono (leapN y) (by omega) (by omega : x + 1 ≤ m); omega
  · intro q
    refine Nat.lt_of_not_le fun hle => ?_
    have := cum_mono (leapN y) (by omega) (by omega : m + 1 ≤ x + 1)
    omega
theorem cal_uniq {n y m d y' m' d' : Nat} (h : IsCal n y m d) (h' : IsCal n y' m' d') : y = y' ∧ m = m' ∧ d = d' := by
  have a1 := cal_year h
  have a2 := cal_year h'
  have b1 := year_lt h h'.1.1.1
  have b2 := year_lt h' h.1.1.1
  obtain rfl : y = y' := by omega
  have c1 := month_lt h h'.1.2.1.1
  have c2 := month_lt h' h.1.2.1.1
  have e1 := cal_range h
  have e2 := cal_range h'
  obtain rfl : m = m' := by omega
  exact ⟨rfl, rfl, by omega⟩
theorem cal_exists {n : Nat} (h : n < 2932897) : ∃ y m d, IsCal n y m d := by
  have hy : ∀ k, n < dbyN (1970 + k) → ∃ y, 1970 ≤ y ∧ y < 1970 + k ∧ dbyN y ≤ n ∧ n < dbyN (y + 1) := by
    intro k
    induction k with
    | zero => intro q; rw [Nat.add_zero, dby_1970] at q; omega
    | succ k ih =>
      intro q
      by_cases e : n < dbyN (1970 + k)
      · obtain ⟨y, h1, h2, h3⟩ := ih e
        exact ⟨y, h1, by omega, h3⟩
      · exact ⟨1970 + k, by omega, by omega, by omega, q⟩
  obtain ⟨y, h1, h2, h3, h4⟩ := hy 8030 (by rw [show 1970 + 8030 = 10000 from rfl, dby_10000]; exact h)
  rw [dby_next h1] at h4
  have hm : ∀ k, n - dbyN y < cumM (leapN y) (1 + k) → ∃ m, 1 ≤ m ∧ m < 1 + k ∧ cumM (leapN y) m ≤ n - dbyN y ∧ n - dbyN y < cumM (leapN y) (m + 1) := by
    intro k
    induction k with
    | zero => intro q; have : cumM (leapN y) (1 + 0) = 0 := rfl; omega
    | succ k ih =>
      intro q
      by_cases e : n - dbyN y < cumM (leapN y) (1 + k)
      · obtain ⟨m, m1, m2, m3⟩ := ih e
        exact ⟨m, m1, by omega, m3⟩
      · exact ⟨1 + k, by omega, by omega, by omega, q⟩
  obtain ⟨m, m1, m2, m3, m4⟩ := hm 12 (by show n - dbyN y < cumM (leapN y) 13; omega)
  rw [cum_next _ m1] at m4
  refine ⟨y, m, n - dbyN y - cumM (leapN y) m + 1, ⟨⟨h1, by omega⟩, ⟨m1, by omega⟩, by omega, by omega⟩, ?_⟩
  unfold dayN; omega
/-- the day after a day: the next of the month, or the first of the next month or year -/
theorem day_more {y m d : Nat} (h : IsDay y m d) : dayN y m (d + 1) = dayN y m d + 1 := by
  have := h.2.2.1
  unfold dayN; omega
theorem day_month {y m d : Nat} (h : IsDay y m d) (hl : d = lenM (leapN y) m) : dayN y (m + 1) 1 = dayN y m d + 1 := by
  have h1 := h.2.1
  have h2 := h.2.2
  have := cum_next (leapN y) h1.1
  unfold dayN; omega
theorem day_year {y m d : Nat} (h : IsDay y m d) (hl : d = lenM (leapN y) m) (hm : m = 12) : dayN (y + 1) 1 1 = dayN y m d + 1 := by
  have h0 := h.1
  have h2 := h.2.2
  subst hm
  have h3 := dby_next h0.1
  have h4 := cum_next (leapN y) (by omega : 1 ≤ 12)
  have h5 : cumM (leapN (y + 1)) 1 = 0 := rfl
  have h6 : cumM (leapN y) 13 = cumM (leapN y) 12 + lenM (leapN y) 12 := h4
  show dbyN (y + 1) + cumM (leapN (y + 1)) 1 + (1 - 1) = dbyN y + cumM (leapN y) 12 + (d - 1) + 1
  rw [h5, h3, h6, ← hl]
  have := h2.1
  omega

end Go.Proofs.YtdebhlbbcfcmlaaDoor.Asc
