/- The contracts of layer 1's functions of one byte, the program's and the reference's: each returns the value of a plain function of the byte, and the world stays as it was. -/
import Derived.Test.YtchbhpfloinbdaaAscSpec
import Derived.Test.YtchbhpfloinbdaaRows
import Derived.WalkKit
import Derived.WalkLawsBesides
import Derived.WalkSpells
import Derived.Outline
set_option linter.unusedVariables false
set_option linter.unusedSimpArgs false
set_option maxRecDepth 100000
namespace Go.Proofs.Ytchbhpfloinbdaa.Asc
open Go.RowKit

theorem ret_bool {a b : Bool} (h : a = b) : Ending.returned (.bool a) = .returned (.bool b) := by rw [h]
theorem ret_int {k : IntKind} {a b : Int} (h : a = b) : Ending.returned (.int k a) = .returned (.int k b) := by rw [h]
theorem eqb_t {a b : Int} (h : (a == b) = true) : a = b := by simpa using h
theorem eqb_f {a b : Int} (h : (a == b) = false) : ¬ a = b := by simpa using h

theorem isBlank_any (b : Int) (w : World) :
    Calls Try.prog 57 #[.int .u8 b] w fun e w' => e = .returned (.bool (blankI b)) ∧ w = w' := by
  go_enter Try.func57, Try.ntmps57
  go_wp2
  all_goals (go_ret; exact ⟨ret_bool (by simp [blankI, *]), rfl⟩)

theorem rblank_any (b : Int) (w : World) :
    Calls Try.prog 58 #[.int .u8 b] w fun e w' => e = .returned (.bool (blankI b)) ∧ w = w' := by
  go_enter Try.func58, Try.ntmps58
  go_wp2
  all_goals (go_ret; exact ⟨ret_bool (by simp [blankI, *]), rfl⟩)

theorem lowerByte_any (b : Int) (w : World) (h0 : 0 ≤ b) (h1 : b ≤ 255) :
    Calls Try.prog 54 #[.int .u8 b] w fun e w' => e = .returned (.int .u8 (lowI b)) ∧ w = w' := by
  go_enter Try.func54, Try.ntmps54
  go_wp2
  all_goals (go_ret; exact ⟨ret_int (by unfold lowI; split <;> omega), rfl⟩)

end Go.Proofs.Ytchbhpfloinbdaa.Asc
