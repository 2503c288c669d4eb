/- The contracts of strings.Cut at a separator of one byte and of what it calls, and of the reference's Index. -/
import Derived.Test.YtlcojfkkeommoaaStaSpec
import Derived.Test.YtlcojfkkeommoaaAscTok
import Derived.LoopTactic
import Derived.Lib.Hide
import Derived.Deep.QuietTactic
import Derived.BigQuiet
import Derived.Below
import Derived.Lib.Bytealg
set_option linter.unusedVariables false
set_option linter.unusedSimpArgs false
set_option maxRecDepth 100000
namespace Go.Proofs.Ytlcojfkkeommoaa.Asc
open Go.RowKit

/-- a fact that no assumption opens: a walk's search unfolds 'Hid', and runs into a size of a slice -/
def Box (p : Prop) : Prop := True → p
theorem box {p : Prop} (h : p) : Box p := fun _ => h
theorem Box.out {p : Prop} (h : Box p) : p := h trivial

theorem below_drewN (w : World) (n : Nat) : Below w.heap.size w (w.drewN n) := ⟨rfl, rfl, rfl, Nat.le_refl _, fun _ _ => rfl⟩
def cutV (c : UInt8) (l : List UInt8) : Value := .tuple #[.string (bs (cut1 c l)), .string (bs (cut2 c l)), .bool (cutB c l)]

end Go.Proofs.Ytlcojfkkeommoaa.Asc
