/-
  No cell of these rows narrows 'for every input' (looked for: loops, veiled, ifaces, maps, wideKeys, modest, calm, conditions, laid).
  DERIVED. THE GIVEN ROWS OF THIS SEAT. 5 by the template 'for every input the law returns true; each argument reads behind the call as it read before'; 0 by the template 'total and deterministic' (their statements: YtodbmdekgfcjpaaGreatTotals.lean).
  GIVEN WITH THE SEED: the statements are not yours to turn. If you find one false, say at which input.
  Laid BY PROGRAM, IN A SANDBOX (cutbox-rows.mjs): the forced cells as the released guide's own fill.sh prints them over the translation b3572ef004c82b89… (all of the seat's roots in one cut). By AI agents, Wed Nov 11 2026. No macro, syntax, notation, axiom, sorry.
-/
import Derived.Test.YtodbmdekgfcjpaaGreatChecked
import GoSem.Claim
import GoSem.ClaimJoined
import GoSem.ClaimMapViews
import Derived.JoinedTies
import Derived.KernelRfl
namespace Go.Proofs.YtodbmdekgfcjpaaGreat
/- THE CELL 'sum', in the pinned program and in every row, IS THE sha256 OF THE DUMP (.gsa) THAT YtodbmdekgfcjpaaGreatProg.lean LOADS. Nothing in Lean hashes anything: it is a label: what it is worth is what the hold of that sum in a sandbox is worth. -/
noncomputable def Tryz.pinned : Pinned := { name := "ytodbmdekgfcjpaagreat", sum := "b3572ef004c82b89bf7341ccb463e2d33128b3f2ca7b998dec7c1498f09bfcba", checked := Tryz.checked }
namespace Rows
def none {H : Type} : Left H := { results := [], args := [] }

/-- 'variantproxylaw15.VariantsValues': WHATEVER THE INPUT: true; the input reads as it did. -/
def variantsValuesSpec : ChangeSpec := { name := "variantsValues", fn := fun _ => fun
  | [d1, d2, d3] => { results := [.lit (.bool true)], args := [d1, d2, d3] }
  | _ => none }
def variantsValuesRow : OpenClaim := { program := "ytodbmdekgfcjpaagreat", sum := "b3572ef004c82b89bf7341ccb463e2d33128b3f2ca7b998dec7c1498f09bfcba", func := "variantproxy/variantproxylaw15.VariantsValues", spec := "variantsValues", inPlace := ["internal/bytealg.IndexByteString", "internal/bytealg.IndexString", "internal/abi.NoEscape", "internal/bytealg.MakeNoZero"], unfollowed := true, recurses := true, named := ["internal/bytealg.MaxLen"], apart := false }
def VariantsValuesSaid : Prop := variantsValuesRow.holds Tryz.pinned (OpenSpec.ofChange variantsValuesSpec)

/-- ITS FALSE NEIGHBOUR: 'it returns false'. Refute it at one input. -/
def variantsValuesWrong : ChangeSpec := { name := "variantsValues", fn := fun _ => fun
  | [d1, d2, d3] => { results := [.lit (.bool false)], args := [d1, d2, d3] }
  | _ => none }
def VariantsValuesWrongFalsely : Prop := variantsValuesRow.holds Tryz.pinned (OpenSpec.ofChange variantsValuesWrong)

/-- 'variantproxylaw15.VariantsValidity': WHATEVER THE INPUT: true; the input reads as it did. -/
def variantsValiditySpec : ChangeSpec := { name := "variantsValidity", fn := fun _ => fun
  | [d1, d2] => { results := [.lit (.bool true)], args := [d1, d2] }
  | _ => none }
def variantsValidityRow : OpenClaim := { program := "ytodbmdekgfcjpaagreat", sum := "b3572ef004c82b89bf7341ccb463e2d33128b3f2ca7b998dec7c1498f09bfcba", func := "variantproxy/variantproxylaw15.VariantsValidity", spec := "variantsValidity", inPlace := ["internal/bytealg.IndexByteString", "internal/bytealg.IndexString", "internal/abi.NoEscape", "internal/bytealg.MakeNoZero"], unfollowed := true, recurses := true, named := ["internal/bytealg.MaxLen"], apart := false }
def VariantsValiditySaid : Prop := variantsValidityRow.holds Tryz.pinned (OpenSpec.ofChange variantsValiditySpec)

/-- ITS FALSE NEIGHBOUR: 'it returns false'. Refute it at one input. -/
def variantsValidityWrong : ChangeSpec := { name := "variantsValidity", fn := fun _ => fun
  | [d1, d2] => { results := [.lit (.bool false)], args := [d1, d2] }
  | _ => none }
def VariantsValidityWrongFalsely : Prop := variantsValidityRow.holds Tryz.pinned (OpenSpec.ofChange variantsValidityWrong)

/-- 'variantproxylaw15.VariantsParses': WHATEVER THE INPUT: true; the input reads as it did. -/
def variantsParsesSpec : ChangeSpec := { name := "variantsParses", fn := fun _ => fun
  | [d] => { results := [.lit (.bool true)], args := [d] }
  | _ => none }
def variantsParsesRow : OpenClaim := { program := "ytodbmdekgfcjpaagreat", sum := "b3572ef004c82b89bf7341ccb463e2d33128b3f2ca7b998dec7c1498f09bfcba", func := "variantproxy/variantproxylaw15.VariantsParses", spec := "variantsParses", inPlace := ["internal/bytealg.IndexByteString", "internal/bytealg.IndexString", "internal/abi.NoEscape", "internal/bytealg.MakeNoZero"], unfollowed := true, recurses := true, named := ["internal/bytealg.MaxLen"], apart := false }
def VariantsParsesSaid : Prop := variantsParsesRow.holds Tryz.pinned (OpenSpec.ofChange variantsParsesSpec)

/-- ITS FALSE NEIGHBOUR: 'it returns false'. Refute it at one input. -/
def variantsParsesWrong : ChangeSpec := { name := "variantsParses", fn := fun _ => fun
  | [d] => { results := [.lit (.bool false)], args := [d] }
  | _ => none }
def VariantsParsesWrongFalsely : Prop := variantsParsesRow.holds Tryz.pinned (OpenSpec.ofChange variantsParsesWrong)

/-- 'variantproxylaw15.VariantsFormats': WHATEVER THE INPUT: true; the input reads as it did. -/
def variantsFormatsSpec : ChangeSpec := { name := "variantsFormats", fn := fun _ => fun
  | [d] => { results := [.lit (.bool true)], args := [d] }
  | _ => none }
def variantsFormatsRow : OpenClaim := { program := "ytodbmdekgfcjpaagreat", sum := "b3572ef004c82b89bf7341ccb463e2d33128b3f2ca7b998dec7c1498f09bfcba", func := "variantproxy/variantproxylaw15.VariantsFormats", spec := "variantsFormats", inPlace := ["internal/abi.NoEscape", "internal/bytealg.MakeNoZero", "internal/bytealg.IndexByteString", "internal/bytealg.IndexString"], unfollowed := true, recurses := true, named := ["internal/bytealg.MaxLen"], apart := false }
def VariantsFormatsSaid : Prop := variantsFormatsRow.holds Tryz.pinned (OpenSpec.ofChange variantsFormatsSpec)

/-- ITS FALSE NEIGHBOUR: 'it returns false'. Refute it at one input. -/
def variantsFormatsWrong : ChangeSpec := { name := "variantsFormats", fn := fun _ => fun
  | [d] => { results := [.lit (.bool false)], args := [d] }
  | _ => none }
def VariantsFormatsWrongFalsely : Prop := variantsFormatsRow.holds Tryz.pinned (OpenSpec.ofChange variantsFormatsWrong)

/-- 'variantproxylaw15.VariantsBack': WHATEVER THE INPUT: true; the input reads as it did. -/
def variantsBackSpec : ChangeSpec := { name := "variantsBack", fn := fun _ => fun
  | [d] => { results := [.lit (.bool true)], args := [d] }
  | _ => none }
def variantsBackRow : OpenClaim := { program := "ytodbmdekgfcjpaagreat", sum := "b3572ef004c82b89bf7341ccb463e2d33128b3f2ca7b998dec7c1498f09bfcba", func := "variantproxy/variantproxylaw15.VariantsBack", spec := "variantsBack", inPlace := ["internal/abi.NoEscape", "internal/bytealg.MakeNoZero", "internal/bytealg.IndexByteString", "internal/bytealg.IndexString"], unfollowed := true, recurses := true, named := ["internal/bytealg.MaxLen"], apart := false }
def VariantsBackSaid : Prop := variantsBackRow.holds Tryz.pinned (OpenSpec.ofChange variantsBackSpec)

/-- ITS FALSE NEIGHBOUR: 'it returns false'. Refute it at one input. -/
def variantsBackWrong : ChangeSpec := { name := "variantsBack", fn := fun _ => fun
  | [d] => { results := [.lit (.bool false)], args := [d] }
  | _ => none }
def VariantsBackWrongFalsely : Prop := variantsBackRow.holds Tryz.pinned (OpenSpec.ofChange variantsBackWrong)

/- THE SECOND FORM. 'bulk': how many values and letters a reading holds, each counted each time it is reached (what is shared counts as often as it is met; a slice's spare places count too). A statement '..UptoSaid' is the law's where the arguments, and the package variables that the reading takes, are together of bulk at most 1048576: NARROWER than '..Said'. Prove '..Said' where nothing that the law and all that it calls make is longer than what came in: it says more and counts as full. Else prove '..UptoSaid'. A law counts once. -/
mutual
def uptoBulk {H : Type} : DataW H → Nat
  | .lit (.string bytes) => bytes.length + 1
  | .lit _ => 1
  | .nil => 1
  | .ptr d => uptoBulk d + 1
  | .slice elems spare => uptoBulkAll elems + uptoBulkAll spare + 1
  | .agg parts => uptoBulkAll parts + 1
  | .iface _ d => uptoBulk d + 1
  | .map entries => uptoBulkEntries entries + 1
  | .held _ => 1
def uptoBulkAll {H : Type} : List (DataW H) → Nat
  | [] => 0
  | d :: r => uptoBulk d + uptoBulkAll r
def uptoBulkEntries {H : Type} : List (Lit × DataW H) → Nat
  | [] => 0
  | x :: r => uptoBulkEntry x + uptoBulkEntries r
def uptoBulkEntry {H : Type} : Lit × DataW H → Nat
  | (.string bytes, d) => bytes.length + uptoBulk d + 1
  | (_, d) => uptoBulk d + 1
 end
def uptoSmall : (H : Type) → List (DataW H) → Bool := fun _ ds => decide (uptoBulkAll ds ≤ 1048576)
def OpenSpec.upto (s : _root_.Go.ChangeSpec) : _root_.Go.OpenSpec := { _root_.Go.OpenSpec.ofChange s with cond := some uptoSmall }

/-- 'variantproxylaw15.VariantsValues', WHERE WHAT IT READS IS OF BULK AT MOST 1048576: true; the input reads as it did. -/
def variantsValuesUptoRow : OpenClaim := { program := "ytodbmdekgfcjpaagreat", sum := "b3572ef004c82b89bf7341ccb463e2d33128b3f2ca7b998dec7c1498f09bfcba", func := "variantproxy/variantproxylaw15.VariantsValues", spec := "variantsValues", inPlace := ["internal/bytealg.IndexByteString", "internal/bytealg.IndexString", "internal/abi.NoEscape", "internal/bytealg.MakeNoZero"], unfollowed := true, recurses := true, named := ["internal/bytealg.MaxLen"], apart := false, narrowed := true }
def VariantsValuesUptoSaid : Prop := variantsValuesUptoRow.holds Tryz.pinned (OpenSpec.upto variantsValuesSpec)

/-- 'variantproxylaw15.VariantsValidity', WHERE WHAT IT READS IS OF BULK AT MOST 1048576: true; the input reads as it did. -/
def variantsValidityUptoRow : OpenClaim := { program := "ytodbmdekgfcjpaagreat", sum := "b3572ef004c82b89bf7341ccb463e2d33128b3f2ca7b998dec7c1498f09bfcba", func := "variantproxy/variantproxylaw15.VariantsValidity", spec := "variantsValidity", inPlace := ["internal/bytealg.IndexByteString", "internal/bytealg.IndexString", "internal/abi.NoEscape", "internal/bytealg.MakeNoZero"], unfollowed := true, recurses := true, named := ["internal/bytealg.MaxLen"], apart := false, narrowed := true }
def VariantsValidityUptoSaid : Prop := variantsValidityUptoRow.holds Tryz.pinned (OpenSpec.upto variantsValiditySpec)

/-- 'variantproxylaw15.VariantsParses', WHERE WHAT IT READS IS OF BULK AT MOST 1048576: true; the input reads as it did. -/
def variantsParsesUptoRow : OpenClaim := { program := "ytodbmdekgfcjpaagreat", sum := "b3572ef004c82b89bf7341ccb463e2d33128b3f2ca7b998dec7c1498f09bfcba", func := "variantproxy/variantproxylaw15.VariantsParses", spec := "variantsParses", inPlace := ["internal/bytealg.IndexByteString", "internal/bytealg.IndexString", "internal/abi.NoEscape", "internal/bytealg.MakeNoZero"], unfollowed := true, recurses := true, named := ["internal/bytealg.MaxLen"], apart := false, narrowed := true }
def VariantsParsesUptoSaid : Prop := variantsParsesUptoRow.holds Tryz.pinned (OpenSpec.upto variantsParsesSpec)

/-- 'variantproxylaw15.VariantsFormats', WHERE WHAT IT READS IS OF BULK AT MOST 1048576: true; the input reads as it did. -/
def variantsFormatsUptoRow : OpenClaim := { program := "ytodbmdekgfcjpaagreat", sum := "b3572ef004c82b89bf7341ccb463e2d33128b3f2ca7b998dec7c1498f09bfcba", func := "variantproxy/variantproxylaw15.VariantsFormats", spec := "variantsFormats", inPlace := ["internal/abi.NoEscape", "internal/bytealg.MakeNoZero", "internal/bytealg.IndexByteString", "internal/bytealg.IndexString"], unfollowed := true, recurses := true, named := ["internal/bytealg.MaxLen"], apart := false, narrowed := true }
def VariantsFormatsUptoSaid : Prop := variantsFormatsUptoRow.holds Tryz.pinned (OpenSpec.upto variantsFormatsSpec)

/-- 'variantproxylaw15.VariantsBack', WHERE WHAT IT READS IS OF BULK AT MOST 1048576: true; the input reads as it did. -/
def variantsBackUptoRow : OpenClaim := { program := "ytodbmdekgfcjpaagreat", sum := "b3572ef004c82b89bf7341ccb463e2d33128b3f2ca7b998dec7c1498f09bfcba", func := "variantproxy/variantproxylaw15.VariantsBack", spec := "variantsBack", inPlace := ["internal/abi.NoEscape", "internal/bytealg.MakeNoZero", "internal/bytealg.IndexByteString", "internal/bytealg.IndexString"], unfollowed := true, recurses := true, named := ["internal/bytealg.MaxLen"], apart := false, narrowed := true }
def VariantsBackUptoSaid : Prop := variantsBackUptoRow.holds Tryz.pinned (OpenSpec.upto variantsBackSpec)

end Rows
end Go.Proofs.YtodbmdekgfcjpaaGreat
