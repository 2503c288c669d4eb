/- The contract of the reference's Join. -/
import Derived.Test.YtlcojfkkeommoaaLisRef3
set_option linter.unusedVariables false
set_option linter.unusedSimpArgs false
set_option maxRecDepth 100000
namespace Go.Proofs.Ytlcojfkkeommoaa.Asc
open Go.RowKit

def joinB (L : List ByteArray) : ByteArray := bs (joinC (L.map fun x => x.data.toList))
def JoiRel (L : List ByteArray) (v i : Value) : Prop := ∃ (k : Nat) (x : ByteArray), i = .int .i64 k ∧ v = .string x ∧ k ≤ L.length ∧ x.data.toList = joinC ((L.map fun x => x.data.toList).take k) ∧ x.size ≤ 65540 * k
theorem bs_is {x : ByteArray} {l : List UInt8} (h : x.data.toList = l) : x = bs l := by subst h; rfl
end Go.Proofs.Ytlcojfkkeommoaa.Asc
