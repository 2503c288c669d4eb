/- The contracts of package date's functions on years, months and days, over the developers' code of 00e4332. They read package-level tables: what those hold is one word, Tabs. -/
import Derived.Test.YtdebhlbbcfcmlaaDoorDatText
import Derived.Test.YtdebhlbbcfcmlaaDoorAscTok
import Derived.Test.YtdebhlbbcfcmlaaDoorStaCut
set_option linter.unusedVariables false
set_option linter.unusedSimpArgs false
set_option maxRecDepth 100000
namespace Go.Proofs.YtdebhlbbcfcmlaaDoor.Asc
open Go.RowKit

/-- the tables, as the program's text lays them -/
structure Tabs (w : World) : Prop where
  wk : ∀ k, k < 7 → w.cell? ⟨0, k, none⟩ = some (.string (bs (wkL k)))
  mo : ∀ k, k < 12 → w.cell? ⟨1, k, none⟩ = some (.string (bs (monL (k + 1))))
  ln : ∀ k, k < 12 → w.cell? ⟨2, k, none⟩ = some (.int .i64 (lenM false (k + 1) : Nat))
  s1 : 0 < w.heap.size
  s2 : 1 < w.heap.size
  s3 : 2 < w.heap.size
theorem Tabs.below {w w' : World} (h : Tabs w) (b : Below w.heap.size w w') : Tabs w' :=
  ⟨fun k q => by rw [b.cell h.s1, h.wk k q], fun k q => by rw [b.cell h.s2, h.mo k q], fun k q => by rw [b.cell h.s3, h.ln k q],
    Nat.lt_of_lt_of_le h.s1 b.size, Nat.lt_of_lt_of_le h.s2 b.size, Nat.lt_of_lt_of_le h.s3 b.size⟩

theorem mLyb_any (y : Nat) (w : World) (h1 : 1 ≤ y) (h2 : y ≤ 20000) :
    Calls Tryd.prog 33 #[.int .i64 y] w fun e w' => e = .returned (.int .i64 (lybN y : Nat)) ∧ w = w' := by
  go_enter Tryd.func33, Tryd.ntmps33
  go_wp2
  go_ret
  exact ⟨ret_int (by unfold lybN; omega), rfl⟩
theorem mLyb_is {x : Int} {y v : Nat} {w : World} (hx : x = (y : Int)) (h1 : 1 ≤ y) (h2 : y ≤ 20000) (hv : Box (lybN y = v)) :
    Calls Tryd.prog 33 #[.int .i64 x] w fun e w' => e = .returned (.int .i64 (v : Nat)) ∧ w = w' := by
  subst hx
  rw [← hv.out]
  exact mLyb_any y w h1 h2
theorem mLeap_any (y : Nat) (w : World) (h1 : 1 ≤ y) (h2 : y ≤ 10002) :
    Calls Tryd.prog 34 #[.int .i64 y] w fun e w' => e = .returned (.bool (leapN y)) ∧ w = w' := by
  obtain ⟨a, ha⟩ : ∃ a, lybN y = a := ⟨_, rfl⟩
  obtain ⟨b, hb⟩ : ∃ b, lybN (y + 1) = b := ⟨_, rfl⟩
  have HA := box ha
  have HB := box hb
  have HL : Box (decide ((a : Int) < (b : Int)) = leapN y) := box (by
    rcases hl : leapN y with _ | _
    · have := lyb_flat h1 hl
      exact decide_eq_false (by omega)
    · have := lyb_leap h1 hl
      exact decide_eq_true (by omega))
  clear ha hb
  go_enter Tryd.func34, Tryd.ntmps34
  go_wp2_with fail
  refine (mLyb_is (y := y + 1) (by omega) (by omega) (by omega) HB).mono ?_; rintro e w1 ⟨rfl, rfl⟩
  go_wp2_with fail
  refine (mLyb_is (y := y) rfl (by omega) (by omega) HA).mono ?_; rintro e w2 ⟨rfl, rfl⟩
  go_wp2
  go_ret
  exact ⟨ret_bool (by first | exact HL.out | (rw [← HL.out]; simp) | (rw [← HL.out]; exact decide_eq_decide.2 (by omega))), rfl⟩
theorem lenM_not2 (lp : Bool) {m : Nat} (h1 : 1 ≤ m) (h2 : m ≤ 12) (h : m ≠ 2) : lenM false m = lenM lp m := by
  have key : ∀ (b : Bool) (k : Fin 13), 1 ≤ k.1 → k.1 ≠ 2 → lenM false k.1 = lenM b k.1 := by decide
  exact key lp ⟨m, by omega⟩ h1 h
theorem mLength_any (y m : Nat) (w : World) (hW : Tabs w) (y1 : 1 ≤ y) (y2 : y ≤ 10002) (h1 : 1 ≤ m) (h2 : m ≤ 12) :
    Calls Tryd.prog 27 #[.int .i64 y, .int .i64 m] w fun e w' => e = .returned (.int .i64 (lenM (leapN y) m : Nat)) ∧ w = w' := by
  obtain ⟨k, hk⟩ : ∃ k, m = k + 1 := ⟨m - 1, by omega⟩
  have hc := hW.ln k (by omega)
  have hi : (m : Int) - 1 = (k : Int) := by omega
  have k0 : (0 : Int) ≤ (k : Int) := by omega
  have k1 : (k : Int) < 12 := by omega
  rw [← hk] at hc
  by_cases h : m = 2
  · rcases hl : leapN y with _ | _
    · have HL := box hl
      have HV : Box (lenM false m = lenM false m) := box rfl
      have hm : ((m : Int) == 2) = true := by rw [beq_iff_eq]; omega
      clear hk h hl hW
      go_enter Tryd.func27, Tryd.ntmps27
      go_wp2_with (go_at_call 34; refine (mLeap_any _ _ y1 y2).mono ?_; rintro e w' ⟨rfl, rfl⟩; rw [HL.out])
      go_ret
      exact ⟨rfl, rfl⟩
    · have HL := box hl
      have HV : Box (29 = lenM true m) := box (by rw [h]; rfl)
      have hm : ((m : Int) == 2) = true := by rw [beq_iff_eq]; omega
      clear hk h hl hW
      go_enter Tryd.func27, Tryd.ntmps27
      go_wp2_with (go_at_call 34; refine (mLeap_any _ _ y1 y2).mono ?_; rintro e w' ⟨rfl, rfl⟩; rw [HL.out])
      go_ret
      exact ⟨by rw [← HV.out]; rfl, rfl⟩
  · have HV := box (lenM_not2 (leapN y) h1 h2 h)
    have hm : ((m : Int) == 2) = false := by rw [beq_eq_false_iff_ne]; omega
    clear hk h hW
    go_enter Tryd.func27, Tryd.ntmps27
    go_wp2
    go_ret
    exact ⟨by rw [← HV.out]; rfl, rfl⟩
theorem mLength_is {y m v : Nat} {w : World} (hW : Tabs w) (y1 : 1 ≤ y) (y2 : y ≤ 10002) (h1 : 1 ≤ m) (h2 : m ≤ 12) (hv : Box (lenM (leapN y) m = v)) :
    Calls Tryd.prog 27 #[.int .i64 y, .int .i64 m] w fun e w' => e = .returned (.int .i64 (v : Nat)) ∧ w = w' := by
  rw [← hv.out]; exact mLength_any y m w hW y1 y2 h1 h2
theorem mDby_any (y : Nat) (w : World) (h1 : 1970 ≤ y) (h2 : y ≤ 10001) :
    Calls Tryd.prog 26 #[.int .i64 y] w fun e w' => e = .returned (.int .i64 (dbyN y : Nat)) ∧ w = w' := by
  obtain ⟨a, ha⟩ : ∃ a, lybN y = a := ⟨_, rfl⟩
  have HA := box ha
  have HV : Box (365 * ((y : Int) - 1970) + (a : Int) - 477 = (dbyN y : Nat)) := box (by have := lyb_ge h1; unfold dbyN; omega)
  have a1 : a ≤ 10001 := by have := lyb_le y; omega
  clear ha
  go_enter Tryd.func26, Tryd.ntmps26
  go_wp2_with fail
  refine (mLyb_is (y := y) rfl (by omega) (by omega) HA).mono ?_; rintro e w1 ⟨rfl, rfl⟩
  go_wp2_with fail
  refine (mLyb_is (x := 1970) (y := 1970) rfl (by omega) (by omega) (box lyb_1970)).mono ?_; rintro e w2 ⟨rfl, rfl⟩
  go_wp2
  go_ret
  exact ⟨ret_int (by rw [← HV.out]), rfl⟩
theorem mDby_is {x : Int} {y v : Nat} {w : World} (hx : x = (y : Int)) (h1 : 1970 ≤ y) (h2 : y ≤ 10001) (hv : Box (dbyN y = v)) :
    Calls Tryd.prog 26 #[.int .i64 x] w fun e w' => e = .returned (.int .i64 (v : Nat)) ∧ w = w' := by
  subst hx; rw [← hv.out]; exact mDby_any y w h1 h2

end Go.Proofs.YtdebhlbbcfcmlaaDoor.Asc
