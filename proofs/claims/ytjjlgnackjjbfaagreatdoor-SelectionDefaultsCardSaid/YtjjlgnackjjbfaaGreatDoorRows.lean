/-
  NARROWER THAN 'FOR EVERY INPUT', by the rows' own cells (each row's printed sentence says how): SelectionRanks: laid · SelectionKeys: laid · SelectionDefaults: laid · SelectionAcceptable: laid · SelectionProduct: laid · SelectionIgnores: laid.
  DERIVED. THE GIVEN ROWS OF THIS SEAT. 6 by the template 'for every input the law returns true; each argument reads behind the call as it read before'; 0 by the template 'total and deterministic' (their statements: YtjjlgnackjjbfaaGreatDoorTotals.lean).
  GIVEN WITH THE SEED: the statements are not yours to turn. If you find one false, say at which input.
  Laid BY PROGRAM, IN A SANDBOX (cutbox-rows.mjs): the forced cells as the released guide's own fill.sh prints them over the translation a74449fb2bcf3e9b… (all of the seat's roots in one cut). By AI agents, Wed Nov 11 2026. No macro, syntax, notation, axiom, sorry.
-/
import Derived.Test.YtjjlgnackjjbfaaGreatDoorChecked
import GoSem.Claim
import GoSem.ClaimJoined
import GoSem.ClaimMapViews
import Derived.JoinedTies
import Derived.KernelRfl
namespace Go.Proofs.YtjjlgnackjjbfaaGreatDoor
/- THE CELL 'sum', in the pinned program and in every row, IS THE sha256 OF THE DUMP (.gsa) THAT YtjjlgnackjjbfaaGreatDoorProg.lean LOADS. Nothing in Lean hashes anything: it is a label: what it is worth is what the hold of that sum in a sandbox is worth. -/
noncomputable def Tryz.pinned : Pinned := { name := "ytjjlgnackjjbfaagreatdoor", sum := "a74449fb2bcf3e9b54787616eb9437aecea6bac4b308d997294bc91d9f0eb05a", checked := Tryz.checked }
namespace Rows
def none {H : Type} : Left H := { results := [], args := [] }

/- WHAT THE LISTED PACKAGE-LEVEL VARIABLES READ AS WHEN THE CALL BEGINS. Each datum BY PROGRAM (the guide's laid-datum.mjs) off the statement by which the dump's own 'gosem.cut.vars' lays the variable. In a bare row this is a premise. The card (YtjjlgnackjjbfaaGreatDoorCards.lean) ties it to the program's text. -/
def laid_variantproxy_qvalue_weights {H : Type} : DataW H := .agg [.lit (.int .i64 100), .lit (.int .i64 10), .lit (.int .i64 1)]

/-- 'variantproxylaw17.SelectionRanks': WHATEVER THE INPUT: true; the input reads as it did. -/
def selectionRanksSpec : ChangeSpec := { name := "selectionRanks", fn := fun _ => fun
  | [d1, d2, d3] => { results := [.lit (.bool true)], args := [d1, d2, d3] }
  | _ => none }
def selectionRanksRow : OpenClaim := { program := "ytjjlgnackjjbfaagreatdoor", sum := "a74449fb2bcf3e9b54787616eb9437aecea6bac4b308d997294bc91d9f0eb05a", func := "variantproxy/variantproxylaw17.SelectionRanks", spec := "selectionRanks", inPlace := ["internal/bytealg.IndexByteString", "internal/bytealg.IndexString", "internal/abi.NoEscape", "internal/bytealg.CountString", "slices.overlaps[variantproxy/rank.level]", "internal/bytealg.MakeNoZero"], unfollowed := true, recurses := true, named := ["internal/bytealg.MaxLen", "variantproxy/qvalue.weights"], plainKeys := false, apart := false, laid := [("variantproxy/qvalue.weights", laid_variantproxy_qvalue_weights)] }
def SelectionRanksSaid : Prop := selectionRanksRow.holds Tryz.pinned (OpenSpec.ofChange selectionRanksSpec)

/-- ITS FALSE NEIGHBOUR: 'it returns false'. Refute it at one input. -/
def selectionRanksWrong : ChangeSpec := { name := "selectionRanks", fn := fun _ => fun
  | [d1, d2, d3] => { results := [.lit (.bool false)], args := [d1, d2, d3] }
  | _ => none }
def SelectionRanksWrongFalsely : Prop := selectionRanksRow.holds Tryz.pinned (OpenSpec.ofChange selectionRanksWrong)

/-- 'variantproxylaw17.SelectionKeys': WHATEVER THE INPUT: true; the input reads as it did. -/
def selectionKeysSpec : ChangeSpec := { name := "selectionKeys", fn := fun _ => fun
  | [d1, d2, d3] => { results := [.lit (.bool true)], args := [d1, d2, d3] }
  | _ => none }
def selectionKeysRow : OpenClaim := { program := "ytjjlgnackjjbfaagreatdoor", sum := "a74449fb2bcf3e9b54787616eb9437aecea6bac4b308d997294bc91d9f0eb05a", func := "variantproxy/variantproxylaw17.SelectionKeys", spec := "selectionKeys", inPlace := ["internal/bytealg.IndexByteString", "internal/bytealg.IndexString", "internal/abi.NoEscape", "internal/bytealg.CountString", "slices.overlaps[variantproxy/rank.level]", "internal/bytealg.MakeNoZero"], unfollowed := true, recurses := true, named := ["internal/bytealg.MaxLen", "variantproxy/qvalue.weights"], plainKeys := false, apart := false, laid := [("variantproxy/qvalue.weights", laid_variantproxy_qvalue_weights)] }
def SelectionKeysSaid : Prop := selectionKeysRow.holds Tryz.pinned (OpenSpec.ofChange selectionKeysSpec)

/-- ITS FALSE NEIGHBOUR: 'it returns false'. Refute it at one input. -/
def selectionKeysWrong : ChangeSpec := { name := "selectionKeys", fn := fun _ => fun
  | [d1, d2, d3] => { results := [.lit (.bool false)], args := [d1, d2, d3] }
  | _ => none }
def SelectionKeysWrongFalsely : Prop := selectionKeysRow.holds Tryz.pinned (OpenSpec.ofChange selectionKeysWrong)

/-- 'variantproxylaw17.SelectionDefaults': WHATEVER THE INPUT: true; the input reads as it did. -/
def selectionDefaultsSpec : ChangeSpec := { name := "selectionDefaults", fn := fun _ => fun
  | [d1, d2] => { results := [.lit (.bool true)], args := [d1, d2] }
  | _ => none }
def selectionDefaultsRow : OpenClaim := { program := "ytjjlgnackjjbfaagreatdoor", sum := "a74449fb2bcf3e9b54787616eb9437aecea6bac4b308d997294bc91d9f0eb05a", func := "variantproxy/variantproxylaw17.SelectionDefaults", spec := "selectionDefaults", inPlace := ["internal/bytealg.IndexByteString", "internal/bytealg.IndexString", "internal/abi.NoEscape", "internal/bytealg.CountString", "slices.overlaps[variantproxy/rank.level]", "internal/bytealg.MakeNoZero"], unfollowed := true, recurses := true, named := ["internal/bytealg.MaxLen", "variantproxy/qvalue.weights"], plainKeys := false, apart := false, laid := [("variantproxy/qvalue.weights", laid_variantproxy_qvalue_weights)] }
def SelectionDefaultsSaid : Prop := selectionDefaultsRow.holds Tryz.pinned (OpenSpec.ofChange selectionDefaultsSpec)

/-- ITS FALSE NEIGHBOUR: 'it returns false'. Refute it at one input. -/
def selectionDefaultsWrong : ChangeSpec := { name := "selectionDefaults", fn := fun _ => fun
  | [d1, d2] => { results := [.lit (.bool false)], args := [d1, d2] }
  | _ => none }
def SelectionDefaultsWrongFalsely : Prop := selectionDefaultsRow.holds Tryz.pinned (OpenSpec.ofChange selectionDefaultsWrong)

/-- 'variantproxylaw17.SelectionAcceptable': WHATEVER THE INPUT: true; the input reads as it did. -/
def selectionAcceptableSpec : ChangeSpec := { name := "selectionAcceptable", fn := fun _ => fun
  | [d1, d2] => { results := [.lit (.bool true)], args := [d1, d2] }
  | _ => none }
def selectionAcceptableRow : OpenClaim := { program := "ytjjlgnackjjbfaagreatdoor", sum := "a74449fb2bcf3e9b54787616eb9437aecea6bac4b308d997294bc91d9f0eb05a", func := "variantproxy/variantproxylaw17.SelectionAcceptable", spec := "selectionAcceptable", inPlace := ["internal/bytealg.IndexByteString", "internal/bytealg.IndexString", "internal/abi.NoEscape", "internal/bytealg.CountString", "slices.overlaps[variantproxy/rank.level]", "internal/bytealg.MakeNoZero"], unfollowed := true, recurses := true, named := ["internal/bytealg.MaxLen", "variantproxy/qvalue.weights"], plainKeys := false, apart := false, laid := [("variantproxy/qvalue.weights", laid_variantproxy_qvalue_weights)] }
def SelectionAcceptableSaid : Prop := selectionAcceptableRow.holds Tryz.pinned (OpenSpec.ofChange selectionAcceptableSpec)

/-- ITS FALSE NEIGHBOUR: 'it returns false'. Refute it at one input. -/
def selectionAcceptableWrong : ChangeSpec := { name := "selectionAcceptable", fn := fun _ => fun
  | [d1, d2] => { results := [.lit (.bool false)], args := [d1, d2] }
  | _ => none }
def SelectionAcceptableWrongFalsely : Prop := selectionAcceptableRow.holds Tryz.pinned (OpenSpec.ofChange selectionAcceptableWrong)

/-- 'variantproxylaw17.SelectionProduct': WHATEVER THE INPUT: true; the input reads as it did. -/
def selectionProductSpec : ChangeSpec := { name := "selectionProduct", fn := fun _ => fun
  | [d1, d2, d3] => { results := [.lit (.bool true)], args := [d1, d2, d3] }
  | _ => none }
def selectionProductRow : OpenClaim := { program := "ytjjlgnackjjbfaagreatdoor", sum := "a74449fb2bcf3e9b54787616eb9437aecea6bac4b308d997294bc91d9f0eb05a", func := "variantproxy/variantproxylaw17.SelectionProduct", spec := "selectionProduct", inPlace := ["internal/bytealg.IndexByteString", "internal/bytealg.IndexString", "internal/abi.NoEscape", "internal/bytealg.CountString", "slices.overlaps[variantproxy/rank.level]", "internal/bytealg.MakeNoZero"], unfollowed := true, recurses := true, named := ["internal/bytealg.MaxLen", "variantproxy/qvalue.weights"], plainKeys := false, apart := false, laid := [("variantproxy/qvalue.weights", laid_variantproxy_qvalue_weights)] }
def SelectionProductSaid : Prop := selectionProductRow.holds Tryz.pinned (OpenSpec.ofChange selectionProductSpec)

/-- ITS FALSE NEIGHBOUR: 'it returns false'. Refute it at one input. -/
def selectionProductWrong : ChangeSpec := { name := "selectionProduct", fn := fun _ => fun
  | [d1, d2, d3] => { results := [.lit (.bool false)], args := [d1, d2, d3] }
  | _ => none }
def SelectionProductWrongFalsely : Prop := selectionProductRow.holds Tryz.pinned (OpenSpec.ofChange selectionProductWrong)

/-- 'variantproxylaw17.SelectionIgnores': WHATEVER THE INPUT: true; the input reads as it did. -/
def selectionIgnoresSpec : ChangeSpec := { name := "selectionIgnores", fn := fun _ => fun
  | [d1, d2, d3, d4, d5] => { results := [.lit (.bool true)], args := [d1, d2, d3, d4, d5] }
  | _ => none }
def selectionIgnoresRow : OpenClaim := { program := "ytjjlgnackjjbfaagreatdoor", sum := "a74449fb2bcf3e9b54787616eb9437aecea6bac4b308d997294bc91d9f0eb05a", func := "variantproxy/variantproxylaw17.SelectionIgnores", spec := "selectionIgnores", inPlace := ["internal/bytealg.IndexByteString", "internal/bytealg.IndexString", "internal/abi.NoEscape", "internal/bytealg.CountString", "slices.overlaps[variantproxy/rank.level]", "internal/bytealg.MakeNoZero"], unfollowed := true, recurses := true, named := ["internal/bytealg.MaxLen", "variantproxy/qvalue.weights"], plainKeys := false, apart := false, laid := [("variantproxy/qvalue.weights", laid_variantproxy_qvalue_weights)] }
def SelectionIgnoresSaid : Prop := selectionIgnoresRow.holds Tryz.pinned (OpenSpec.ofChange selectionIgnoresSpec)

/-- ITS FALSE NEIGHBOUR: 'it returns false'. Refute it at one input. -/
def selectionIgnoresWrong : ChangeSpec := { name := "selectionIgnores", fn := fun _ => fun
  | [d1, d2, d3, d4, d5] => { results := [.lit (.bool false)], args := [d1, d2, d3, d4, d5] }
  | _ => none }
def SelectionIgnoresWrongFalsely : Prop := selectionIgnoresRow.holds Tryz.pinned (OpenSpec.ofChange selectionIgnoresWrong)

/- THE SECOND FORM. 'bulk': how many values and letters a reading holds, each counted each time it is reached (what is shared counts as often as it is met; a slice's spare places count too). A statement '..UptoSaid' is the law's where the arguments, and the package variables that the reading takes, are together of bulk at most 1048576: NARROWER than '..Said'. Prove '..Said' where nothing that the law and all that it calls make is longer than what came in: it says more and counts as full. Else prove '..UptoSaid'. A law counts once. -/
mutual
def uptoBulk {H : Type} : DataW H → Nat
  | .lit (.string bytes) => bytes.length + 1
  | .lit _ => 1
  | .nil => 1
  | .ptr d => uptoBulk d + 1
  | .slice elems spare => uptoBulkAll elems + uptoBulkAll spare + 1
  | .agg parts => uptoBulkAll parts + 1
  | .iface _ d => uptoBulk d + 1
  | .map entries => uptoBulkEntries entries + 1
  | .held _ => 1
def uptoBulkAll {H : Type} : List (DataW H) → Nat
  | [] => 0
  | d :: r => uptoBulk d + uptoBulkAll r
def uptoBulkEntries {H : Type} : List (Lit × DataW H) → Nat
  | [] => 0
  | x :: r => uptoBulkEntry x + uptoBulkEntries r
def uptoBulkEntry {H : Type} : Lit × DataW H → Nat
  | (.string bytes, d) => bytes.length + uptoBulk d + 1
  | (_, d) => uptoBulk d + 1
 end
def uptoSmall : (H : Type) → List (DataW H) → Bool := fun _ ds => decide (uptoBulkAll ds ≤ 1048576)
def OpenSpec.upto (s : _root_.Go.ChangeSpec) : _root_.Go.OpenSpec := { _root_.Go.OpenSpec.ofChange s with cond := some uptoSmall }

/-- 'variantproxylaw17.SelectionRanks', WHERE WHAT IT READS IS OF BULK AT MOST 1048576: true; the input reads as it did. -/
def selectionRanksUptoRow : OpenClaim := { program := "ytjjlgnackjjbfaagreatdoor", sum := "a74449fb2bcf3e9b54787616eb9437aecea6bac4b308d997294bc91d9f0eb05a", func := "variantproxy/variantproxylaw17.SelectionRanks", spec := "selectionRanks", inPlace := ["internal/bytealg.IndexByteString", "internal/bytealg.IndexString", "internal/abi.NoEscape", "internal/bytealg.CountString", "slices.overlaps[variantproxy/rank.level]", "internal/bytealg.MakeNoZero"], unfollowed := true, recurses := true, named := ["internal/bytealg.MaxLen", "variantproxy/qvalue.weights"], plainKeys := false, apart := false, laid := [("variantproxy/qvalue.weights", laid_variantproxy_qvalue_weights)], narrowed := true }
def SelectionRanksUptoSaid : Prop := selectionRanksUptoRow.holds Tryz.pinned (OpenSpec.upto selectionRanksSpec)

/-- 'variantproxylaw17.SelectionKeys', WHERE WHAT IT READS IS OF BULK AT MOST 1048576: true; the input reads as it did. -/
def selectionKeysUptoRow : OpenClaim := { program := "ytjjlgnackjjbfaagreatdoor", sum := "a74449fb2bcf3e9b54787616eb9437aecea6bac4b308d997294bc91d9f0eb05a", func := "variantproxy/variantproxylaw17.SelectionKeys", spec := "selectionKeys", inPlace := ["internal/bytealg.IndexByteString", "internal/bytealg.IndexString", "internal/abi.NoEscape", "internal/bytealg.CountString", "slices.overlaps[variantproxy/rank.level]", "internal/bytealg.MakeNoZero"], unfollowed := true, recurses := true, named := ["internal/bytealg.MaxLen", "variantproxy/qvalue.weights"], plainKeys := false, apart := false, laid := [("variantproxy/qvalue.weights", laid_variantproxy_qvalue_weights)], narrowed := true }
def SelectionKeysUptoSaid : Prop := selectionKeysUptoRow.holds Tryz.pinned (OpenSpec.upto selectionKeysSpec)

/-- 'variantproxylaw17.SelectionDefaults', WHERE WHAT IT READS IS OF BULK AT MOST 1048576: true; the input reads as it did. -/
def selectionDefaultsUptoRow : OpenClaim := { program := "ytjjlgnackjjbfaagreatdoor", sum := "a74449fb2bcf3e9b54787616eb9437aecea6bac4b308d997294bc91d9f0eb05a", func := "variantproxy/variantproxylaw17.SelectionDefaults", spec := "selectionDefaults", inPlace := ["internal/bytealg.IndexByteString", "internal/bytealg.IndexString", "internal/abi.NoEscape", "internal/bytealg.CountString", "slices.overlaps[variantproxy/rank.level]", "internal/bytealg.MakeNoZero"], unfollowed := true, recurses := true, named := ["internal/bytealg.MaxLen", "variantproxy/qvalue.weights"], plainKeys := false, apart := false, laid := [("variantproxy/qvalue.weights", laid_variantproxy_qvalue_weights)], narrowed := true }
def SelectionDefaultsUptoSaid : Prop := selectionDefaultsUptoRow.holds Tryz.pinned (OpenSpec.upto selectionDefaultsSpec)

/-- 'variantproxylaw17.SelectionAcceptable', WHERE WHAT IT READS IS OF BULK AT MOST 1048576: true; the input reads as it did. -/
def selectionAcceptableUptoRow : OpenClaim := { program := "ytjjlgnackjjbfaagreatdoor", sum := "a74449fb2bcf3e9b54787616eb9437aecea6bac4b308d997294bc91d9f0eb05a", func := "variantproxy/variantproxylaw17.SelectionAcceptable", spec := "selectionAcceptable", inPlace := ["internal/bytealg.IndexByteString", "internal/bytealg.IndexString", "internal/abi.NoEscape", "internal/bytealg.CountString", "slices.overlaps[variantproxy/rank.level]", "internal/bytealg.MakeNoZero"], unfollowed := true, recurses := true, named := ["internal/bytealg.MaxLen", "variantproxy/qvalue.weights"], plainKeys := false, apart := false, laid := [("variantproxy/qvalue.weights", laid_variantproxy_qvalue_weights)], narrowed := true }
def SelectionAcceptableUptoSaid : Prop := selectionAcceptableUptoRow.holds Tryz.pinned (OpenSpec.upto selectionAcceptableSpec)

/-- 'variantproxylaw17.SelectionProduct', WHERE WHAT IT READS IS OF BULK AT MOST 1048576: true; the input reads as it did. -/
def selectionProductUptoRow : OpenClaim := { program := "ytjjlgnackjjbfaagreatdoor", sum := "a74449fb2bcf3e9b54787616eb9437aecea6bac4b308d997294bc91d9f0eb05a", func := "variantproxy/variantproxylaw17.SelectionProduct", spec := "selectionProduct", inPlace := ["internal/bytealg.IndexByteString", "internal/bytealg.IndexString", "internal/abi.NoEscape", "internal/bytealg.CountString", "slices.overlaps[variantproxy/rank.level]", "internal/bytealg.MakeNoZero"], unfollowed := true, recurses := true, named := ["internal/bytealg.MaxLen", "variantproxy/qvalue.weights"], plainKeys := false, apart := false, laid := [("variantproxy/qvalue.weights", laid_variantproxy_qvalue_weights)], narrowed := true }
def SelectionProductUptoSaid : Prop := selectionProductUptoRow.holds Tryz.pinned (OpenSpec.upto selectionProductSpec)

/-- 'variantproxylaw17.SelectionIgnores', WHERE WHAT IT READS IS OF BULK AT MOST 1048576: true; the input reads as it did. -/
def selectionIgnoresUptoRow : OpenClaim := { program := "ytjjlgnackjjbfaagreatdoor", sum := "a74449fb2bcf3e9b54787616eb9437aecea6bac4b308d997294bc91d9f0eb05a", func := "variantproxy/variantproxylaw17.SelectionIgnores", spec := "selectionIgnores", inPlace := ["internal/bytealg.IndexByteString", "internal/bytealg.IndexString", "internal/abi.NoEscape", "internal/bytealg.CountString", "slices.overlaps[variantproxy/rank.level]", "internal/bytealg.MakeNoZero"], unfollowed := true, recurses := true, named := ["internal/bytealg.MaxLen", "variantproxy/qvalue.weights"], plainKeys := false, apart := false, laid := [("variantproxy/qvalue.weights", laid_variantproxy_qvalue_weights)], narrowed := true }
def SelectionIgnoresUptoSaid : Prop := selectionIgnoresUptoRow.holds Tryz.pinned (OpenSpec.upto selectionIgnoresSpec)

end Rows
end Go.Proofs.YtjjlgnackjjbfaaGreatDoor
