/- The contracts of package target's parseTriplet and appendTriplet. -/
import Derived.Test.YthfhoacflkbhhaaTarByt
import Derived.Test.YthfhoacflkbhhaaTarNorm
set_option linter.unusedVariables false
set_option linter.unusedSimpArgs false
namespace Go.Proofs.Ythfhoacflkbhhaa.Asc
open Go.RowKit

/-- what parseTriplet returns: the byte of the triplet that begins the list -/
def tripleL : List UInt8 → Option UInt8
  | _ :: a :: b :: _ => if (hexB a && hexB b) = true then some (UInt8.ofNat (tripN a b)) else none
  | _ => none
def trV : Option UInt8 → Value
  | some y => .tuple #[.int .u8 y.toNat, .bool true]
  | none => .tuple #[.int .u8 0, .bool false]
theorem shl4 : ∀ x : Fin 16, IntKind.u8.wrap (((x.1 : Nat) : Int) * 2 ^ 4) = ((x.1 : Nat) : Int) * 16 := by decide +kernel
theorem or_low : ∀ x y : Fin 16, bits .or .u8 (((x.1 : Nat) : Int) * 16) ((y.1 : Nat) : Int) = ((x.1 : Nat) : Int) * 16 + ((y.1 : Nat) : Int) := by decide +kernel
/-- a call returns a slice of its own, in a block not below B, that holds the bytes l -/
def OwnRet (B : Nat) (l : List UInt8) (w : World) (e : Ending) (w' : World) : Prop := ∃ v, e = .returned v ∧ Own w' B v l ∧ Below B w w'
end Go.Proofs.Ythfhoacflkbhhaa.Asc
