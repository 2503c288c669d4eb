/-
  No cell of these rows narrows 'for every input' (looked for: loops, veiled, ifaces, maps, wideKeys, modest, calm, conditions, laid).
  DERIVED. THE GIVEN ROWS OF THIS SEAT. 4 by the template 'for every input the law returns true; each argument reads behind the call as it read before'; 0 by the template 'total and deterministic' (their statements: YtlhcccakiidbdaaTotals.lean).
  GIVEN WITH THE SEED: the statements are not yours to turn. If you find one false, say at which input.
  Laid BY PROGRAM, IN A SANDBOX (cutbox-rows.mjs): the forced cells as the released guide's own fill.sh prints them over the translation 476106459c26bc9a… (all of the seat's roots in one cut). By AI agents, Wed Nov 11 2026. No macro, syntax, notation, axiom, sorry.
-/
import Derived.Test.YtlhcccakiidbdaaChecked
import GoSem.Claim
import GoSem.ClaimJoined
import GoSem.ClaimMapViews
import Derived.JoinedTies
import Derived.KernelRfl
namespace Go.Proofs.Ytlhcccakiidbdaa
/- THE CELL 'sum', in the pinned program and in every row, IS THE sha256 OF THE DUMP (.gsa) THAT YtlhcccakiidbdaaProg.lean LOADS. Nothing in Lean hashes anything: it is a label: what it is worth is what the hold of that sum in a sandbox is worth. -/
noncomputable def Try.pinned : Pinned := { name := "ytlhcccakiidbdaa", sum := "476106459c26bc9a338993570816e5835ba268dce92ee58bb5a3d68105cef05b", checked := Try.checked }
namespace Rows
def none {H : Type} : Left H := { results := [], args := [] }

/-- 'variantproxylaw19.VaryNames': WHATEVER THE INPUT: true; the input reads as it did. -/
def varyNamesSpec : ChangeSpec := { name := "varyNames", fn := fun _ => fun
  | [d] => { results := [.lit (.bool true)], args := [d] }
  | _ => none }
def varyNamesRow : OpenClaim := { program := "ytlhcccakiidbdaa", sum := "476106459c26bc9a338993570816e5835ba268dce92ee58bb5a3d68105cef05b", func := "variantproxy/variantproxylaw19.VaryNames", spec := "varyNames", inPlace := ["internal/abi.NoEscape", "internal/bytealg.MakeNoZero"], unfollowed := true, recurses := true, apart := false }
def VaryNamesSaid : Prop := varyNamesRow.holds Try.pinned (OpenSpec.ofChange varyNamesSpec)

/-- ITS FALSE NEIGHBOUR: 'it returns false'. Refute it at one input. -/
def varyNamesWrong : ChangeSpec := { name := "varyNames", fn := fun _ => fun
  | [d] => { results := [.lit (.bool false)], args := [d] }
  | _ => none }
def VaryNamesWrongFalsely : Prop := varyNamesRow.holds Try.pinned (OpenSpec.ofChange varyNamesWrong)

/-- 'variantproxylaw19.VaryValues': WHATEVER THE INPUT: true; the input reads as it did. -/
def varyValuesSpec : ChangeSpec := { name := "varyValues", fn := fun _ => fun
  | [d1, d2, d3] => { results := [.lit (.bool true)], args := [d1, d2, d3] }
  | _ => none }
def varyValuesRow : OpenClaim := { program := "ytlhcccakiidbdaa", sum := "476106459c26bc9a338993570816e5835ba268dce92ee58bb5a3d68105cef05b", func := "variantproxy/variantproxylaw19.VaryValues", spec := "varyValues", inPlace := ["internal/abi.NoEscape", "internal/bytealg.MakeNoZero"], unfollowed := true, recurses := true, apart := false }
def VaryValuesSaid : Prop := varyValuesRow.holds Try.pinned (OpenSpec.ofChange varyValuesSpec)

/-- ITS FALSE NEIGHBOUR: 'it returns false'. Refute it at one input. -/
def varyValuesWrong : ChangeSpec := { name := "varyValues", fn := fun _ => fun
  | [d1, d2, d3] => { results := [.lit (.bool false)], args := [d1, d2, d3] }
  | _ => none }
def VaryValuesWrongFalsely : Prop := varyValuesRow.holds Try.pinned (OpenSpec.ofChange varyValuesWrong)

/-- 'variantproxylaw19.VaryItself': WHATEVER THE INPUT: true; the input reads as it did. -/
def varyItselfSpec : ChangeSpec := { name := "varyItself", fn := fun _ => fun
  | [d1, d2, d3] => { results := [.lit (.bool true)], args := [d1, d2, d3] }
  | _ => none }
def varyItselfRow : OpenClaim := { program := "ytlhcccakiidbdaa", sum := "476106459c26bc9a338993570816e5835ba268dce92ee58bb5a3d68105cef05b", func := "variantproxy/variantproxylaw19.VaryItself", spec := "varyItself", inPlace := ["internal/abi.NoEscape", "internal/bytealg.MakeNoZero"], unfollowed := true, recurses := true, apart := false }
def VaryItselfSaid : Prop := varyItselfRow.holds Try.pinned (OpenSpec.ofChange varyItselfSpec)

/-- ITS FALSE NEIGHBOUR: 'it returns false'. Refute it at one input. -/
def varyItselfWrong : ChangeSpec := { name := "varyItself", fn := fun _ => fun
  | [d1, d2, d3] => { results := [.lit (.bool false)], args := [d1, d2, d3] }
  | _ => none }
def VaryItselfWrongFalsely : Prop := varyItselfRow.holds Try.pinned (OpenSpec.ofChange varyItselfWrong)

/-- 'variantproxylaw19.VarySorted': WHATEVER THE INPUT: true; the input reads as it did. -/
def varySortedSpec : ChangeSpec := { name := "varySorted", fn := fun _ => fun
  | [d] => { results := [.lit (.bool true)], args := [d] }
  | _ => none }
def varySortedRow : OpenClaim := { program := "ytlhcccakiidbdaa", sum := "476106459c26bc9a338993570816e5835ba268dce92ee58bb5a3d68105cef05b", func := "variantproxy/variantproxylaw19.VarySorted", spec := "varySorted", inPlace := ["internal/abi.NoEscape", "internal/bytealg.MakeNoZero"], unfollowed := true, recurses := true, apart := false }
def VarySortedSaid : Prop := varySortedRow.holds Try.pinned (OpenSpec.ofChange varySortedSpec)

/-- ITS FALSE NEIGHBOUR: 'it returns false'. Refute it at one input. -/
def varySortedWrong : ChangeSpec := { name := "varySorted", fn := fun _ => fun
  | [d] => { results := [.lit (.bool false)], args := [d] }
  | _ => none }
def VarySortedWrongFalsely : Prop := varySortedRow.holds Try.pinned (OpenSpec.ofChange varySortedWrong)

/- THE SECOND FORM. 'bulk': how many values and letters a reading holds, each counted each time it is reached (what is shared counts as often as it is met; a slice's spare places count too). A statement '..UptoSaid' is the law's where the arguments, and the package variables that the reading takes, are together of bulk at most 1048576: NARROWER than '..Said'. Prove '..Said' where nothing that the law and all that it calls make is longer than what came in: it says more and counts as full. Else prove '..UptoSaid'. A law counts once. -/
mutual
def uptoBulk {H : Type} : DataW H → Nat
  | .lit (.string bytes) => bytes.length + 1
  | .lit _ => 1
  | .nil => 1
  | .ptr d => uptoBulk d + 1
  | .slice elems spare => uptoBulkAll elems + uptoBulkAll spare + 1
  | .agg parts => uptoBulkAll parts + 1
  | .iface _ d => uptoBulk d + 1
  | .map entries => uptoBulkEntries entries + 1
  | .held _ => 1
def uptoBulkAll {H : Type} : List (DataW H) → Nat
  | [] => 0
  | d :: r => uptoBulk d + uptoBulkAll r
def uptoBulkEntries {H : Type} : List (Lit × DataW H) → Nat
  | [] => 0
  | x :: r => uptoBulkEntry x + uptoBulkEntries r
def uptoBulkEntry {H : Type} : Lit × DataW H → Nat
  | (.string bytes, d) => bytes.length + uptoBulk d + 1
  | (_, d) => uptoBulk d + 1
 end
def uptoSmall : (H : Type) → List (DataW H) → Bool := fun _ ds => decide (uptoBulkAll ds ≤ 1048576)
def OpenSpec.upto (s : _root_.Go.ChangeSpec) : _root_.Go.OpenSpec := { _root_.Go.OpenSpec.ofChange s with cond := some uptoSmall }

/-- 'variantproxylaw19.VaryNames', WHERE WHAT IT READS IS OF BULK AT MOST 1048576: true; the input reads as it did. -/
def varyNamesUptoRow : OpenClaim := { program := "ytlhcccakiidbdaa", sum := "476106459c26bc9a338993570816e5835ba268dce92ee58bb5a3d68105cef05b", func := "variantproxy/variantproxylaw19.VaryNames", spec := "varyNames", inPlace := ["internal/abi.NoEscape", "internal/bytealg.MakeNoZero"], unfollowed := true, recurses := true, apart := false, narrowed := true }
def VaryNamesUptoSaid : Prop := varyNamesUptoRow.holds Try.pinned (OpenSpec.upto varyNamesSpec)

/-- 'variantproxylaw19.VaryValues', WHERE WHAT IT READS IS OF BULK AT MOST 1048576: true; the input reads as it did. -/
def varyValuesUptoRow : OpenClaim := { program := "ytlhcccakiidbdaa", sum := "476106459c26bc9a338993570816e5835ba268dce92ee58bb5a3d68105cef05b", func := "variantproxy/variantproxylaw19.VaryValues", spec := "varyValues", inPlace := ["internal/abi.NoEscape", "internal/bytealg.MakeNoZero"], unfollowed := true, recurses := true, apart := false, narrowed := true }
def VaryValuesUptoSaid : Prop := varyValuesUptoRow.holds Try.pinned (OpenSpec.upto varyValuesSpec)

/-- 'variantproxylaw19.VaryItself', WHERE WHAT IT READS IS OF BULK AT MOST 1048576: true; the input reads as it did. -/
def varyItselfUptoRow : OpenClaim := { program := "ytlhcccakiidbdaa", sum := "476106459c26bc9a338993570816e5835ba268dce92ee58bb5a3d68105cef05b", func := "variantproxy/variantproxylaw19.VaryItself", spec := "varyItself", inPlace := ["internal/abi.NoEscape", "internal/bytealg.MakeNoZero"], unfollowed := true, recurses := true, apart := false, narrowed := true }
def VaryItselfUptoSaid : Prop := varyItselfUptoRow.holds Try.pinned (OpenSpec.upto varyItselfSpec)

/-- 'variantproxylaw19.VarySorted', WHERE WHAT IT READS IS OF BULK AT MOST 1048576: true; the input reads as it did. -/
def varySortedUptoRow : OpenClaim := { program := "ytlhcccakiidbdaa", sum := "476106459c26bc9a338993570816e5835ba268dce92ee58bb5a3d68105cef05b", func := "variantproxy/variantproxylaw19.VarySorted", spec := "varySorted", inPlace := ["internal/abi.NoEscape", "internal/bytealg.MakeNoZero"], unfollowed := true, recurses := true, apart := false, narrowed := true }
def VarySortedUptoSaid : Prop := varySortedUptoRow.holds Try.pinned (OpenSpec.upto varySortedSpec)

end Rows
end Go.Proofs.Ytlhcccakiidbdaa
