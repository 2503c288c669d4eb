/- The contracts of the reference's leap, length, Days. -/
import Derived.Test.YtdebhlbbcfcmlaaDoorDatText
import Derived.Test.YtdebhlbbcfcmlaaDoorAscTok
import Derived.Test.YtdebhlbbcfcmlaaDoorAscRDec
import Derived.Test.YtdebhlbbcfcmlaaDoorStaCut
set_option linter.unusedVariables false
set_option linter.unusedSimpArgs false
set_option maxRecDepth 100000
namespace Go.Proofs.YtdebhlbbcfcmlaaDoor.Asc
open Go.RowKit

theorem rLeap_any (y : Nat) (w : World) (h : y ≤ 20000) : Calls Tryd.prog 29 #[.int .i64 y] w fun e w' => e = .returned (.bool (leapN y)) ∧ w = w' := by
  have i4 : ((y : Int) % 4 == 0) = (y % 4 == 0) := by rw [Bool.eq_iff_iff, beq_iff_eq, beq_iff_eq]; omega
  have i100 : ((y : Int) % 100 != 0) = (y % 100 != 0) := by rw [Bool.eq_iff_iff, bne_iff_ne, bne_iff_ne]; omega
  have i400 : ((y : Int) % 400 == 0) = (y % 400 == 0) := by rw [Bool.eq_iff_iff, beq_iff_eq, beq_iff_eq]; omega
  have HL : Box (leapN y = (y % 4 == 0 && (y % 100 != 0 || y % 400 == 0))) := box rfl
  rcases h4 : (y % 4 == 0) with _ | _
  all_goals rcases h100 : (y % 100 != 0) with _ | _
  all_goals rcases h400 : (y % 400 == 0) with _ | _
  all_goals
    rw [h4] at i4; rw [h100] at i100; rw [h400] at i400
    rw [h4, h100, h400] at HL
    clear h4 h100 h400
    go_enter Tryd.func29, Tryd.ntmps29
    go_wp2
    go_ret
    exact ⟨by rw [HL.out]; rfl, rfl⟩
theorem len_2 (lp : Bool) : lenM lp 2 = if lp then 29 else 28 := rfl
theorem rLength_any (y m : Nat) (w : World) (h : y ≤ 20000) (h1 : 1 ≤ m) (h2 : m ≤ 12) : Calls Tryd.prog 28 #[.int .i64 y, .int .i64 m] w fun e w' => e = .returned (.int .i64 (lenM (leapN y) m)) ∧ w = w' := by
  have hm : m = 1 ∨ m = 2 ∨ m = 3 ∨ m = 4 ∨ m = 5 ∨ m = 6 ∨ m = 7 ∨ m = 8 ∨ m = 9 ∨ m = 10 ∨ m = 11 ∨ m = 12 := by omega
  have HY := box h
  clear h h1 h2
  rcases hl : leapN y with _ | _
  all_goals
    have HL := box hl
    clear hl
    rcases hm with rfl | rfl | rfl | rfl | rfl | rfl | rfl | rfl | rfl | rfl | rfl | rfl
  all_goals
    go_enter Tryd.func28, Tryd.ntmps28
    go_wp2_with (go_at_call 29; refine (rLeap_any _ _ HY.out).mono ?_; rintro e w' ⟨rfl, rfl⟩; rw [HL.out])
    go_ret
    exact ⟨rfl, rfl⟩

end Go.Proofs.YtdebhlbbcfcmlaaDoor.Asc
