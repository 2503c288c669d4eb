/-
  No cell of these rows narrows 'for every input' (looked for: loops, veiled, ifaces, maps, wideKeys, modest, calm, conditions, laid).
  DERIVED. THE GIVEN ROWS OF THIS SEAT. 3 by the template 'for every input the law returns true; each argument reads behind the call as it read before'; 0 by the template 'total and deterministic' (their statements: YtcnohcbhnldglaaGreatTotals.lean).
  GIVEN WITH THE SEED: the statements are not yours to turn. If you find one false, say at which input.
  Laid BY PROGRAM, IN A SANDBOX (cutbox-rows.mjs): the forced cells as the released guide's own fill.sh prints them over the translation fee4ebe8e332b548… (all of the seat's roots in one cut). By AI agents, Wed Nov 11 2026. No macro, syntax, notation, axiom, sorry.
-/
import Derived.Test.YtcnohcbhnldglaaGreatChecked
import GoSem.Claim
import GoSem.ClaimJoined
import GoSem.ClaimMapViews
import Derived.JoinedTies
import Derived.KernelRfl
namespace Go.Proofs.YtcnohcbhnldglaaGreat
/- THE CELL 'sum', in the pinned program and in every row, IS THE sha256 OF THE DUMP (.gsa) THAT YtcnohcbhnldglaaGreatProg.lean LOADS. Nothing in Lean hashes anything: it is a label: what it is worth is what the hold of that sum in a sandbox is worth. -/
noncomputable def Tryz.pinned : Pinned := { name := "ytcnohcbhnldglaagreat", sum := "fee4ebe8e332b548d9d67ff9897bb60b29ab6e2654e09b2707b341e40d3cfdcd", checked := Tryz.checked }
namespace Rows
def none {H : Type} : Left H := { results := [], args := [] }

/-- 'variantproxylaw16.VariantkeyParses': WHATEVER THE INPUT: true; the input reads as it did. -/
def variantkeyParsesSpec : ChangeSpec := { name := "variantkeyParses", fn := fun _ => fun
  | [d1, d2] => { results := [.lit (.bool true)], args := [d1, d2] }
  | _ => none }
def variantkeyParsesRow : OpenClaim := { program := "ytcnohcbhnldglaagreat", sum := "fee4ebe8e332b548d9d67ff9897bb60b29ab6e2654e09b2707b341e40d3cfdcd", func := "variantproxy/variantproxylaw16.VariantkeyParses", spec := "variantkeyParses", unfollowed := true, recurses := true, apart := false }
def VariantkeyParsesSaid : Prop := variantkeyParsesRow.holds Tryz.pinned (OpenSpec.ofChange variantkeyParsesSpec)

/-- ITS FALSE NEIGHBOUR: 'it returns false'. Refute it at one input. -/
def variantkeyParsesWrong : ChangeSpec := { name := "variantkeyParses", fn := fun _ => fun
  | [d1, d2] => { results := [.lit (.bool false)], args := [d1, d2] }
  | _ => none }
def VariantkeyParsesWrongFalsely : Prop := variantkeyParsesRow.holds Tryz.pinned (OpenSpec.ofChange variantkeyParsesWrong)

/-- 'variantproxylaw16.VariantkeyFormats': WHATEVER THE INPUT: true; the input reads as it did. -/
def variantkeyFormatsSpec : ChangeSpec := { name := "variantkeyFormats", fn := fun _ => fun
  | [d1, d2, d3, d4] => { results := [.lit (.bool true)], args := [d1, d2, d3, d4] }
  | _ => none }
def variantkeyFormatsRow : OpenClaim := { program := "ytcnohcbhnldglaagreat", sum := "fee4ebe8e332b548d9d67ff9897bb60b29ab6e2654e09b2707b341e40d3cfdcd", func := "variantproxy/variantproxylaw16.VariantkeyFormats", spec := "variantkeyFormats", inPlace := ["internal/abi.NoEscape", "internal/bytealg.MakeNoZero"], unfollowed := true, recurses := true, apart := false }
def VariantkeyFormatsSaid : Prop := variantkeyFormatsRow.holds Tryz.pinned (OpenSpec.ofChange variantkeyFormatsSpec)

/-- ITS FALSE NEIGHBOUR: 'it returns false'. Refute it at one input. -/
def variantkeyFormatsWrong : ChangeSpec := { name := "variantkeyFormats", fn := fun _ => fun
  | [d1, d2, d3, d4] => { results := [.lit (.bool false)], args := [d1, d2, d3, d4] }
  | _ => none }
def VariantkeyFormatsWrongFalsely : Prop := variantkeyFormatsRow.holds Tryz.pinned (OpenSpec.ofChange variantkeyFormatsWrong)

/-- 'variantproxylaw16.VariantkeyBack': WHATEVER THE INPUT: true; the input reads as it did. -/
def variantkeyBackSpec : ChangeSpec := { name := "variantkeyBack", fn := fun _ => fun
  | [d1, d2] => { results := [.lit (.bool true)], args := [d1, d2] }
  | _ => none }
def variantkeyBackRow : OpenClaim := { program := "ytcnohcbhnldglaagreat", sum := "fee4ebe8e332b548d9d67ff9897bb60b29ab6e2654e09b2707b341e40d3cfdcd", func := "variantproxy/variantproxylaw16.VariantkeyBack", spec := "variantkeyBack", inPlace := ["internal/abi.NoEscape", "internal/bytealg.MakeNoZero"], unfollowed := true, recurses := true, apart := false }
def VariantkeyBackSaid : Prop := variantkeyBackRow.holds Tryz.pinned (OpenSpec.ofChange variantkeyBackSpec)

/-- ITS FALSE NEIGHBOUR: 'it returns false'. Refute it at one input. -/
def variantkeyBackWrong : ChangeSpec := { name := "variantkeyBack", fn := fun _ => fun
  | [d1, d2] => { results := [.lit (.bool false)], args := [d1, d2] }
  | _ => none }
def VariantkeyBackWrongFalsely : Prop := variantkeyBackRow.holds Tryz.pinned (OpenSpec.ofChange variantkeyBackWrong)

/- THE SECOND FORM. 'bulk': how many values and letters a reading holds, each counted each time it is reached (what is shared counts as often as it is met; a slice's spare places count too). A statement '..UptoSaid' is the law's where the arguments, and the package variables that the reading takes, are together of bulk at most 1048576: NARROWER than '..Said'. Prove '..Said' where nothing that the law and all that it calls make is longer than what came in: it says more and counts as full. Else prove '..UptoSaid'. A law counts once. -/
mutual
def uptoBulk {H : Type} : DataW H → Nat
  | .lit (.string bytes) => bytes.length + 1
  | .lit _ => 1
  | .nil => 1
  | .ptr d => uptoBulk d + 1
  | .slice elems spare => uptoBulkAll elems + uptoBulkAll spare + 1
  | .agg parts => uptoBulkAll parts + 1
  | .iface _ d => uptoBulk d + 1
  | .map entries => uptoBulkEntries entries + 1
  | .held _ => 1
def uptoBulkAll {H : Type} : List (DataW H) → Nat
  | [] => 0
  | d :: r => uptoBulk d + uptoBulkAll r
def uptoBulkEntries {H : Type} : List (Lit × DataW H) → Nat
  | [] => 0
  | x :: r => uptoBulkEntry x + uptoBulkEntries r
def uptoBulkEntry {H : Type} : Lit × DataW H → Nat
  | (.string bytes, d) => bytes.length + uptoBulk d + 1
  | (_, d) => uptoBulk d + 1
 end
def uptoSmall : (H : Type) → List (DataW H) → Bool := fun _ ds => decide (uptoBulkAll ds ≤ 1048576)
def OpenSpec.upto (s : _root_.Go.ChangeSpec) : _root_.Go.OpenSpec := { _root_.Go.OpenSpec.ofChange s with cond := some uptoSmall }

/-- 'variantproxylaw16.VariantkeyParses', WHERE WHAT IT READS IS OF BULK AT MOST 1048576: true; the input reads as it did. -/
def variantkeyParsesUptoRow : OpenClaim := { program := "ytcnohcbhnldglaagreat", sum := "fee4ebe8e332b548d9d67ff9897bb60b29ab6e2654e09b2707b341e40d3cfdcd", func := "variantproxy/variantproxylaw16.VariantkeyParses", spec := "variantkeyParses", unfollowed := true, recurses := true, apart := false, narrowed := true }
def VariantkeyParsesUptoSaid : Prop := variantkeyParsesUptoRow.holds Tryz.pinned (OpenSpec.upto variantkeyParsesSpec)

/-- 'variantproxylaw16.VariantkeyFormats', WHERE WHAT IT READS IS OF BULK AT MOST 1048576: true; the input reads as it did. -/
def variantkeyFormatsUptoRow : OpenClaim := { program := "ytcnohcbhnldglaagreat", sum := "fee4ebe8e332b548d9d67ff9897bb60b29ab6e2654e09b2707b341e40d3cfdcd", func := "variantproxy/variantproxylaw16.VariantkeyFormats", spec := "variantkeyFormats", inPlace := ["internal/abi.NoEscape", "internal/bytealg.MakeNoZero"], unfollowed := true, recurses := true, apart := false, narrowed := true }
def VariantkeyFormatsUptoSaid : Prop := variantkeyFormatsUptoRow.holds Tryz.pinned (OpenSpec.upto variantkeyFormatsSpec)

/-- 'variantproxylaw16.VariantkeyBack', WHERE WHAT IT READS IS OF BULK AT MOST 1048576: true; the input reads as it did. -/
def variantkeyBackUptoRow : OpenClaim := { program := "ytcnohcbhnldglaagreat", sum := "fee4ebe8e332b548d9d67ff9897bb60b29ab6e2654e09b2707b341e40d3cfdcd", func := "variantproxy/variantproxylaw16.VariantkeyBack", spec := "variantkeyBack", inPlace := ["internal/abi.NoEscape", "internal/bytealg.MakeNoZero"], unfollowed := true, recurses := true, apart := false, narrowed := true }
def VariantkeyBackUptoSaid : Prop := variantkeyBackUptoRow.holds Tryz.pinned (OpenSpec.upto variantkeyBackSpec)

end Rows
end Go.Proofs.YtcnohcbhnldglaaGreat
