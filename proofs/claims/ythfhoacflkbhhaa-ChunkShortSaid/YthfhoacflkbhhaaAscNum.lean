/- The contracts of Number, the program's and the reference's, and of appendDigit. -/
import Derived.Test.YthfhoacflkbhhaaAscBytes
import Derived.Test.YthfhoacflkbhhaaAscTok
import Derived.Test.YthfhoacflkbhhaaAscSpec2
import Derived.LoopTactic
import Derived.Lib.Hide
set_option linter.unusedVariables false
set_option linter.unusedSimpArgs false
namespace Go.Proofs.Ythfhoacflkbhhaa.Asc
open Go.RowKit

def numT (o : Option Int) : Value := .tuple #[.int .i64 (numV o).1, .bool (numV o).2]
theorem numT_of {o : Option Int} {a : Int} {b : Bool} (h : numV o = (a, b)) : Ending.returned (.tuple #[.int .i64 a, .bool b]) = .returned (numT o) := by
  unfold numT; rw [h]

end Go.Proofs.Ythfhoacflkbhhaa.Asc
