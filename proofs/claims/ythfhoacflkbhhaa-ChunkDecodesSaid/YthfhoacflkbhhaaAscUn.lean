/- The contract of unescape. -/
import Derived.Test.YthfhoacflkbhhaaAscOwn
set_option linter.unusedVariables false
set_option linter.unusedSimpArgs false
namespace Go.Proofs.Ythfhoacflkbhhaa.Asc
open Go.RowKit

/-- the two results of a function that returns a string and whether there is one -/
def optV : Option (List UInt8) → Value
  | none => .tuple #[.string ⟨#[]⟩, .bool false]
  | some l => .tuple #[.string ⟨l.toArray⟩, .bool true]

end Go.Proofs.Ythfhoacflkbhhaa.Asc
