/- The contracts of package target's functions of one byte. -/
import Derived.Test.YthfhoacflkbhhaaTarRef
import Derived.Test.YthfhoacflkbhhaaStaVer
set_option linter.unusedVariables false
set_option linter.unusedSimpArgs false
namespace Go.Proofs.Ythfhoacflkbhhaa.Asc
open Go.RowKit

/-- a hexadecimal digit's value, and whether it is one -/
def hexV (c : UInt8) : Value := .tuple #[.int .u8 (if hexB c = true then hexI c.toNat else 0), .bool (hexB c)]
end Go.Proofs.Ythfhoacflkbhhaa.Asc
