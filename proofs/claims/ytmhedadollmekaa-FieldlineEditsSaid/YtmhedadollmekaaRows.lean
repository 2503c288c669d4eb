/-
  No cell of these rows narrows 'for every input' (looked for: loops, veiled, ifaces, maps, wideKeys, modest, calm, conditions, laid).
  DERIVED. THE GIVEN ROWS OF THIS SEAT. 6 by the template 'for every input the law returns true; each argument reads behind the call as it read before'; 0 by the template 'total and deterministic' (their statements: YtmhedadollmekaaTotals.lean).
  GIVEN WITH THE SEED: the statements are not yours to turn. If you find one false, say at which input.
  Laid BY PROGRAM, IN A SANDBOX (cutbox-rows.mjs): the forced cells as the released guide's own fill.sh prints them over the translation f3c78b8ed8f012a4… (all of the seat's roots in one cut). By AI agents, Wed Nov 11 2026. No macro, syntax, notation, axiom, sorry.
-/
import Derived.Test.YtmhedadollmekaaChecked
import GoSem.Claim
import GoSem.ClaimJoined
import GoSem.ClaimMapViews
import Derived.JoinedTies
import Derived.KernelRfl
namespace Go.Proofs.Ytmhedadollmekaa
/- THE CELL 'sum', in the pinned program and in every row, IS THE sha256 OF THE DUMP (.gsa) THAT YtmhedadollmekaaProg.lean LOADS. Nothing in Lean hashes anything: it is a label: what it is worth is what the hold of that sum in a sandbox is worth. -/
noncomputable def Try.pinned : Pinned := { name := "ytmhedadollmekaa", sum := "f3c78b8ed8f012a40b4fb39799a5391967771b765da1ec87a96bceecee370056", checked := Try.checked }
namespace Rows
def none {H : Type} : Left H := { results := [], args := [] }

/-- 'variantproxylaw03.FieldlineParses': WHATEVER THE INPUT: true; the input reads as it did. -/
def fieldlineParsesSpec : ChangeSpec := { name := "fieldlineParses", fn := fun _ => fun
  | [d] => { results := [.lit (.bool true)], args := [d] }
  | _ => none }
def fieldlineParsesRow : OpenClaim := { program := "ytmhedadollmekaa", sum := "f3c78b8ed8f012a40b4fb39799a5391967771b765da1ec87a96bceecee370056", func := "variantproxy/variantproxylaw03.FieldlineParses", spec := "fieldlineParses", inPlace := ["internal/bytealg.IndexByteString", "internal/bytealg.IndexString"], named := ["internal/bytealg.MaxLen"], apart := false }
def FieldlineParsesSaid : Prop := fieldlineParsesRow.holds Try.pinned (OpenSpec.ofChange fieldlineParsesSpec)

/-- ITS FALSE NEIGHBOUR: 'it returns false'. Refute it at one input. -/
def fieldlineParsesWrong : ChangeSpec := { name := "fieldlineParses", fn := fun _ => fun
  | [d] => { results := [.lit (.bool false)], args := [d] }
  | _ => none }
def FieldlineParsesWrongFalsely : Prop := fieldlineParsesRow.holds Try.pinned (OpenSpec.ofChange fieldlineParsesWrong)

/-- 'variantproxylaw03.FieldlineFormats': WHATEVER THE INPUT: true; the input reads as it did. -/
def fieldlineFormatsSpec : ChangeSpec := { name := "fieldlineFormats", fn := fun _ => fun
  | [d] => { results := [.lit (.bool true)], args := [d] }
  | _ => none }
def fieldlineFormatsRow : OpenClaim := { program := "ytmhedadollmekaa", sum := "f3c78b8ed8f012a40b4fb39799a5391967771b765da1ec87a96bceecee370056", func := "variantproxy/variantproxylaw03.FieldlineFormats", spec := "fieldlineFormats", inPlace := ["internal/bytealg.IndexByteString", "internal/bytealg.IndexString"], named := ["internal/bytealg.MaxLen"], apart := false }
def FieldlineFormatsSaid : Prop := fieldlineFormatsRow.holds Try.pinned (OpenSpec.ofChange fieldlineFormatsSpec)

/-- ITS FALSE NEIGHBOUR: 'it returns false'. Refute it at one input. -/
def fieldlineFormatsWrong : ChangeSpec := { name := "fieldlineFormats", fn := fun _ => fun
  | [d] => { results := [.lit (.bool false)], args := [d] }
  | _ => none }
def FieldlineFormatsWrongFalsely : Prop := fieldlineFormatsRow.holds Try.pinned (OpenSpec.ofChange fieldlineFormatsWrong)

/-- 'variantproxylaw03.FieldlineLists': WHATEVER THE INPUT: true; the input reads as it did. -/
def fieldlineListsSpec : ChangeSpec := { name := "fieldlineLists", fn := fun _ => fun
  | [d1, d2] => { results := [.lit (.bool true)], args := [d1, d2] }
  | _ => none }
def fieldlineListsRow : OpenClaim := { program := "ytmhedadollmekaa", sum := "f3c78b8ed8f012a40b4fb39799a5391967771b765da1ec87a96bceecee370056", func := "variantproxy/variantproxylaw03.FieldlineLists", spec := "fieldlineLists", inPlace := ["internal/bytealg.IndexByteString", "internal/bytealg.IndexString"], unfollowed := true, recurses := true, named := ["internal/bytealg.MaxLen"], apart := false }
def FieldlineListsSaid : Prop := fieldlineListsRow.holds Try.pinned (OpenSpec.ofChange fieldlineListsSpec)

/-- ITS FALSE NEIGHBOUR: 'it returns false'. Refute it at one input. -/
def fieldlineListsWrong : ChangeSpec := { name := "fieldlineLists", fn := fun _ => fun
  | [d1, d2] => { results := [.lit (.bool false)], args := [d1, d2] }
  | _ => none }
def FieldlineListsWrongFalsely : Prop := fieldlineListsRow.holds Try.pinned (OpenSpec.ofChange fieldlineListsWrong)

/-- 'variantproxylaw03.FieldlineEdits': WHATEVER THE INPUT: true; the input reads as it did. -/
def fieldlineEditsSpec : ChangeSpec := { name := "fieldlineEdits", fn := fun _ => fun
  | [d1, d2, d3] => { results := [.lit (.bool true)], args := [d1, d2, d3] }
  | _ => none }
def fieldlineEditsRow : OpenClaim := { program := "ytmhedadollmekaa", sum := "f3c78b8ed8f012a40b4fb39799a5391967771b765da1ec87a96bceecee370056", func := "variantproxy/variantproxylaw03.FieldlineEdits", spec := "fieldlineEdits", inPlace := ["internal/bytealg.IndexByteString", "internal/bytealg.IndexString"], unfollowed := true, recurses := true, named := ["internal/bytealg.MaxLen"], apart := false }
def FieldlineEditsSaid : Prop := fieldlineEditsRow.holds Try.pinned (OpenSpec.ofChange fieldlineEditsSpec)

/-- ITS FALSE NEIGHBOUR: 'it returns false'. Refute it at one input. -/
def fieldlineEditsWrong : ChangeSpec := { name := "fieldlineEdits", fn := fun _ => fun
  | [d1, d2, d3] => { results := [.lit (.bool false)], args := [d1, d2, d3] }
  | _ => none }
def FieldlineEditsWrongFalsely : Prop := fieldlineEditsRow.holds Try.pinned (OpenSpec.ofChange fieldlineEditsWrong)

/-- 'variantproxylaw03.FieldlineBack': WHATEVER THE INPUT: true; the input reads as it did. -/
def fieldlineBackSpec : ChangeSpec := { name := "fieldlineBack", fn := fun _ => fun
  | [d] => { results := [.lit (.bool true)], args := [d] }
  | _ => none }
def fieldlineBackRow : OpenClaim := { program := "ytmhedadollmekaa", sum := "f3c78b8ed8f012a40b4fb39799a5391967771b765da1ec87a96bceecee370056", func := "variantproxy/variantproxylaw03.FieldlineBack", spec := "fieldlineBack", inPlace := ["internal/bytealg.IndexByteString", "internal/bytealg.IndexString"], named := ["internal/bytealg.MaxLen"], apart := false }
def FieldlineBackSaid : Prop := fieldlineBackRow.holds Try.pinned (OpenSpec.ofChange fieldlineBackSpec)

/-- ITS FALSE NEIGHBOUR: 'it returns false'. Refute it at one input. -/
def fieldlineBackWrong : ChangeSpec := { name := "fieldlineBack", fn := fun _ => fun
  | [d] => { results := [.lit (.bool false)], args := [d] }
  | _ => none }
def FieldlineBackWrongFalsely : Prop := fieldlineBackRow.holds Try.pinned (OpenSpec.ofChange fieldlineBackWrong)

/-- 'variantproxylaw03.FieldlineSets': WHATEVER THE INPUT: true; the input reads as it did. -/
def fieldlineSetsSpec : ChangeSpec := { name := "fieldlineSets", fn := fun _ => fun
  | [d1, d2, d3, d4] => { results := [.lit (.bool true)], args := [d1, d2, d3, d4] }
  | _ => none }
def fieldlineSetsRow : OpenClaim := { program := "ytmhedadollmekaa", sum := "f3c78b8ed8f012a40b4fb39799a5391967771b765da1ec87a96bceecee370056", func := "variantproxy/variantproxylaw03.FieldlineSets", spec := "fieldlineSets", inPlace := ["internal/bytealg.IndexByteString", "internal/bytealg.IndexString"], unfollowed := true, recurses := true, named := ["internal/bytealg.MaxLen"], apart := false }
def FieldlineSetsSaid : Prop := fieldlineSetsRow.holds Try.pinned (OpenSpec.ofChange fieldlineSetsSpec)

/-- ITS FALSE NEIGHBOUR: 'it returns false'. Refute it at one input. -/
def fieldlineSetsWrong : ChangeSpec := { name := "fieldlineSets", fn := fun _ => fun
  | [d1, d2, d3, d4] => { results := [.lit (.bool false)], args := [d1, d2, d3, d4] }
  | _ => none }
def FieldlineSetsWrongFalsely : Prop := fieldlineSetsRow.holds Try.pinned (OpenSpec.ofChange fieldlineSetsWrong)

/- THE SECOND FORM. 'bulk': how many values and letters a reading holds, each counted each time it is reached (what is shared counts as often as it is met; a slice's spare places count too). A statement '..UptoSaid' is the law's where the arguments, and the package variables that the reading takes, are together of bulk at most 1048576: NARROWER than '..Said'. Prove '..Said' where nothing that the law and all that it calls make is longer than what came in: it says more and counts as full. Else prove '..UptoSaid'. A law counts once. -/
mutual
def uptoBulk {H : Type} : DataW H → Nat
  | .lit (.string bytes) => bytes.length + 1
  | .lit _ => 1
  | .nil => 1
  | .ptr d => uptoBulk d + 1
  | .slice elems spare => uptoBulkAll elems + uptoBulkAll spare + 1
  | .agg parts => uptoBulkAll parts + 1
  | .iface _ d => uptoBulk d + 1
  | .map entries => uptoBulkEntries entries + 1
  | .held _ => 1
def uptoBulkAll {H : Type} : List (DataW H) → Nat
  | [] => 0
  | d :: r => uptoBulk d + uptoBulkAll r
def uptoBulkEntries {H : Type} : List (Lit × DataW H) → Nat
  | [] => 0
  | x :: r => uptoBulkEntry x + uptoBulkEntries r
def uptoBulkEntry {H : Type} : Lit × DataW H → Nat
  | (.string bytes, d) => bytes.length + uptoBulk d + 1
  | (_, d) => uptoBulk d + 1
 end
def uptoSmall : (H : Type) → List (DataW H) → Bool := fun _ ds => decide (uptoBulkAll ds ≤ 1048576)
def OpenSpec.upto (s : _root_.Go.ChangeSpec) : _root_.Go.OpenSpec := { _root_.Go.OpenSpec.ofChange s with cond := some uptoSmall }

/-- 'variantproxylaw03.FieldlineParses', WHERE WHAT IT READS IS OF BULK AT MOST 1048576: true; the input reads as it did. -/
def fieldlineParsesUptoRow : OpenClaim := { program := "ytmhedadollmekaa", sum := "f3c78b8ed8f012a40b4fb39799a5391967771b765da1ec87a96bceecee370056", func := "variantproxy/variantproxylaw03.FieldlineParses", spec := "fieldlineParses", inPlace := ["internal/bytealg.IndexByteString", "internal/bytealg.IndexString"], named := ["internal/bytealg.MaxLen"], apart := false, narrowed := true }
def FieldlineParsesUptoSaid : Prop := fieldlineParsesUptoRow.holds Try.pinned (OpenSpec.upto fieldlineParsesSpec)

/-- 'variantproxylaw03.FieldlineFormats', WHERE WHAT IT READS IS OF BULK AT MOST 1048576: true; the input reads as it did. -/
def fieldlineFormatsUptoRow : OpenClaim := { program := "ytmhedadollmekaa", sum := "f3c78b8ed8f012a40b4fb39799a5391967771b765da1ec87a96bceecee370056", func := "variantproxy/variantproxylaw03.FieldlineFormats", spec := "fieldlineFormats", inPlace := ["internal/bytealg.IndexByteString", "internal/bytealg.IndexString"], named := ["internal/bytealg.MaxLen"], apart := false, narrowed := true }
def FieldlineFormatsUptoSaid : Prop := fieldlineFormatsUptoRow.holds Try.pinned (OpenSpec.upto fieldlineFormatsSpec)

/-- 'variantproxylaw03.FieldlineLists', WHERE WHAT IT READS IS OF BULK AT MOST 1048576: true; the input reads as it did. -/
def fieldlineListsUptoRow : OpenClaim := { program := "ytmhedadollmekaa", sum := "f3c78b8ed8f012a40b4fb39799a5391967771b765da1ec87a96bceecee370056", func := "variantproxy/variantproxylaw03.FieldlineLists", spec := "fieldlineLists", inPlace := ["internal/bytealg.IndexByteString", "internal/bytealg.IndexString"], unfollowed := true, recurses := true, named := ["internal/bytealg.MaxLen"], apart := false, narrowed := true }
def FieldlineListsUptoSaid : Prop := fieldlineListsUptoRow.holds Try.pinned (OpenSpec.upto fieldlineListsSpec)

/-- 'variantproxylaw03.FieldlineEdits', WHERE WHAT IT READS IS OF BULK AT MOST 1048576: true; the input reads as it did. -/
def fieldlineEditsUptoRow : OpenClaim := { program := "ytmhedadollmekaa", sum := "f3c78b8ed8f012a40b4fb39799a5391967771b765da1ec87a96bceecee370056", func := "variantproxy/variantproxylaw03.FieldlineEdits", spec := "fieldlineEdits", inPlace := ["internal/bytealg.IndexByteString", "internal/bytealg.IndexString"], unfollowed := true, recurses := true, named := ["internal/bytealg.MaxLen"], apart := false, narrowed := true }
def FieldlineEditsUptoSaid : Prop := fieldlineEditsUptoRow.holds Try.pinned (OpenSpec.upto fieldlineEditsSpec)

/-- 'variantproxylaw03.FieldlineBack', WHERE WHAT IT READS IS OF BULK AT MOST 1048576: true; the input reads as it did. -/
def fieldlineBackUptoRow : OpenClaim := { program := "ytmhedadollmekaa", sum := "f3c78b8ed8f012a40b4fb39799a5391967771b765da1ec87a96bceecee370056", func := "variantproxy/variantproxylaw03.FieldlineBack", spec := "fieldlineBack", inPlace := ["internal/bytealg.IndexByteString", "internal/bytealg.IndexString"], named := ["internal/bytealg.MaxLen"], apart := false, narrowed := true }
def FieldlineBackUptoSaid : Prop := fieldlineBackUptoRow.holds Try.pinned (OpenSpec.upto fieldlineBackSpec)

/-- 'variantproxylaw03.FieldlineSets', WHERE WHAT IT READS IS OF BULK AT MOST 1048576: true; the input reads as it did. -/
def fieldlineSetsUptoRow : OpenClaim := { program := "ytmhedadollmekaa", sum := "f3c78b8ed8f012a40b4fb39799a5391967771b765da1ec87a96bceecee370056", func := "variantproxy/variantproxylaw03.FieldlineSets", spec := "fieldlineSets", inPlace := ["internal/bytealg.IndexByteString", "internal/bytealg.IndexString"], unfollowed := true, recurses := true, named := ["internal/bytealg.MaxLen"], apart := false, narrowed := true }
def FieldlineSetsUptoSaid : Prop := fieldlineSetsUptoRow.holds Try.pinned (OpenSpec.upto fieldlineSetsSpec)

end Rows
end Go.Proofs.Ytmhedadollmekaa
