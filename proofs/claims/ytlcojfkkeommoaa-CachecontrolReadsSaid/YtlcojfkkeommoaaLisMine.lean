/- The contracts of package list's functions: Split and All stand in LisApp2; Join. -/
import Derived.Test.YtlcojfkkeommoaaLisApp2
import Derived.Test.YtlcojfkkeommoaaBldJoin
set_option linter.unusedVariables false
set_option linter.unusedSimpArgs false
set_option maxRecDepth 100000
namespace Go.Proofs.Ytlcojfkkeommoaa.Asc
open Go.RowKit

end Go.Proofs.Ytlcojfkkeommoaa.Asc
