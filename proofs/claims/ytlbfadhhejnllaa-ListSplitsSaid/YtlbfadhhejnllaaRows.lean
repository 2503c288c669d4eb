/-
  No cell of these rows narrows 'for every input' (looked for: loops, veiled, ifaces, maps, wideKeys, modest, calm, conditions, laid).
  DERIVED. THE GIVEN ROWS OF THIS SEAT. 4 by the template 'for every input the law returns true; each argument reads behind the call as it read before'; 0 by the template 'total and deterministic' (their statements: YtlbfadhhejnllaaTotals.lean).
  GIVEN WITH THE SEED: the statements are not yours to turn. If you find one false, say at which input.
  Laid BY PROGRAM, IN A SANDBOX (cutbox-rows.mjs): the forced cells as the released guide's own fill.sh prints them over the translation 6dc37cf90259c63b… (all of the seat's roots in one cut). By AI agents, Wed Nov 11 2026. No macro, syntax, notation, axiom, sorry.
-/
import Derived.Test.YtlbfadhhejnllaaChecked
import GoSem.Claim
import GoSem.ClaimJoined
import GoSem.ClaimMapViews
import Derived.JoinedTies
import Derived.KernelRfl
namespace Go.Proofs.Ytlbfadhhejnllaa
/- THE CELL 'sum', in the pinned program and in every row, IS THE sha256 OF THE DUMP (.gsa) THAT YtlbfadhhejnllaaProg.lean LOADS. Nothing in Lean hashes anything: it is a label: what it is worth is what the hold of that sum in a sandbox is worth. -/
noncomputable def Try.pinned : Pinned := { name := "ytlbfadhhejnllaa", sum := "6dc37cf90259c63b0b78527ca45ff4c1bd17f733a99658a4b45f5c6fa9148417", checked := Try.checked }
namespace Rows
def none {H : Type} : Left H := { results := [], args := [] }

/-- 'variantproxylaw07.ListSplits': WHATEVER THE INPUT: true; the input reads as it did. -/
def listSplitsSpec : ChangeSpec := { name := "listSplits", fn := fun _ => fun
  | [d1, d2] => { results := [.lit (.bool true)], args := [d1, d2] }
  | _ => none }
def listSplitsRow : OpenClaim := { program := "ytlbfadhhejnllaa", sum := "6dc37cf90259c63b0b78527ca45ff4c1bd17f733a99658a4b45f5c6fa9148417", func := "variantproxy/variantproxylaw07.ListSplits", spec := "listSplits", inPlace := ["internal/abi.NoEscape", "internal/bytealg.MakeNoZero"], apart := false }
def ListSplitsSaid : Prop := listSplitsRow.holds Try.pinned (OpenSpec.ofChange listSplitsSpec)

/-- ITS FALSE NEIGHBOUR: 'it returns false'. Refute it at one input. -/
def listSplitsWrong : ChangeSpec := { name := "listSplits", fn := fun _ => fun
  | [d1, d2] => { results := [.lit (.bool false)], args := [d1, d2] }
  | _ => none }
def ListSplitsWrongFalsely : Prop := listSplitsRow.holds Try.pinned (OpenSpec.ofChange listSplitsWrong)

/-- 'variantproxylaw07.ListAll': WHATEVER THE INPUT: true; the input reads as it did. -/
def listAllSpec : ChangeSpec := { name := "listAll", fn := fun _ => fun
  | [d1, d2] => { results := [.lit (.bool true)], args := [d1, d2] }
  | _ => none }
def listAllRow : OpenClaim := { program := "ytlbfadhhejnllaa", sum := "6dc37cf90259c63b0b78527ca45ff4c1bd17f733a99658a4b45f5c6fa9148417", func := "variantproxy/variantproxylaw07.ListAll", spec := "listAll", unfollowed := true, recurses := true, apart := false }
def ListAllSaid : Prop := listAllRow.holds Try.pinned (OpenSpec.ofChange listAllSpec)

/-- ITS FALSE NEIGHBOUR: 'it returns false'. Refute it at one input. -/
def listAllWrong : ChangeSpec := { name := "listAll", fn := fun _ => fun
  | [d1, d2] => { results := [.lit (.bool false)], args := [d1, d2] }
  | _ => none }
def ListAllWrongFalsely : Prop := listAllRow.holds Try.pinned (OpenSpec.ofChange listAllWrong)

/-- 'variantproxylaw07.ListBack': WHATEVER THE INPUT: true; the input reads as it did. -/
def listBackSpec : ChangeSpec := { name := "listBack", fn := fun _ => fun
  | [d] => { results := [.lit (.bool true)], args := [d] }
  | _ => none }
def listBackRow : OpenClaim := { program := "ytlbfadhhejnllaa", sum := "6dc37cf90259c63b0b78527ca45ff4c1bd17f733a99658a4b45f5c6fa9148417", func := "variantproxy/variantproxylaw07.ListBack", spec := "listBack", inPlace := ["internal/abi.NoEscape", "internal/bytealg.MakeNoZero"], apart := false }
def ListBackSaid : Prop := listBackRow.holds Try.pinned (OpenSpec.ofChange listBackSpec)

/-- ITS FALSE NEIGHBOUR: 'it returns false'. Refute it at one input. -/
def listBackWrong : ChangeSpec := { name := "listBack", fn := fun _ => fun
  | [d] => { results := [.lit (.bool false)], args := [d] }
  | _ => none }
def ListBackWrongFalsely : Prop := listBackRow.holds Try.pinned (OpenSpec.ofChange listBackWrong)

/-- 'variantproxylaw07.ListLines': WHATEVER THE INPUT: true; the input reads as it did. -/
def listLinesSpec : ChangeSpec := { name := "listLines", fn := fun _ => fun
  | [d1, d2, d3] => { results := [.lit (.bool true)], args := [d1, d2, d3] }
  | _ => none }
def listLinesRow : OpenClaim := { program := "ytlbfadhhejnllaa", sum := "6dc37cf90259c63b0b78527ca45ff4c1bd17f733a99658a4b45f5c6fa9148417", func := "variantproxy/variantproxylaw07.ListLines", spec := "listLines", unfollowed := true, recurses := true, apart := false }
def ListLinesSaid : Prop := listLinesRow.holds Try.pinned (OpenSpec.ofChange listLinesSpec)

/-- ITS FALSE NEIGHBOUR: 'it returns false'. Refute it at one input. -/
def listLinesWrong : ChangeSpec := { name := "listLines", fn := fun _ => fun
  | [d1, d2, d3] => { results := [.lit (.bool false)], args := [d1, d2, d3] }
  | _ => none }
def ListLinesWrongFalsely : Prop := listLinesRow.holds Try.pinned (OpenSpec.ofChange listLinesWrong)

/- THE SECOND FORM. 'bulk': how many values and letters a reading holds, each counted each time it is reached (what is shared counts as often as it is met; a slice's spare places count too). A statement '..UptoSaid' is the law's where the arguments, and the package variables that the reading takes, are together of bulk at most 1048576: NARROWER than '..Said'. Prove '..Said' where nothing that the law and all that it calls make is longer than what came in: it says more and counts as full. Else prove '..UptoSaid'. A law counts once. -/
mutual
def uptoBulk {H : Type} : DataW H → Nat
  | .lit (.string bytes) => bytes.length + 1
  | .lit _ => 1
  | .nil => 1
  | .ptr d => uptoBulk d + 1
  | .slice elems spare => uptoBulkAll elems + uptoBulkAll spare + 1
  | .agg parts => uptoBulkAll parts + 1
  | .iface _ d => uptoBulk d + 1
  | .map entries => uptoBulkEntries entries + 1
  | .held _ => 1
def uptoBulkAll {H : Type} : List (DataW H) → Nat
  | [] => 0
  | d :: r => uptoBulk d + uptoBulkAll r
def uptoBulkEntries {H : Type} : List (Lit × DataW H) → Nat
  | [] => 0
  | x :: r => uptoBulkEntry x + uptoBulkEntries r
def uptoBulkEntry {H : Type} : Lit × DataW H → Nat
  | (.string bytes, d) => bytes.length + uptoBulk d + 1
  | (_, d) => uptoBulk d + 1
 end
def uptoSmall : (H : Type) → List (DataW H) → Bool := fun _ ds => decide (uptoBulkAll ds ≤ 1048576)
def OpenSpec.upto (s : _root_.Go.ChangeSpec) : _root_.Go.OpenSpec := { _root_.Go.OpenSpec.ofChange s with cond := some uptoSmall }

/-- 'variantproxylaw07.ListSplits', WHERE WHAT IT READS IS OF BULK AT MOST 1048576: true; the input reads as it did. -/
def listSplitsUptoRow : OpenClaim := { program := "ytlbfadhhejnllaa", sum := "6dc37cf90259c63b0b78527ca45ff4c1bd17f733a99658a4b45f5c6fa9148417", func := "variantproxy/variantproxylaw07.ListSplits", spec := "listSplits", inPlace := ["internal/abi.NoEscape", "internal/bytealg.MakeNoZero"], apart := false, narrowed := true }
def ListSplitsUptoSaid : Prop := listSplitsUptoRow.holds Try.pinned (OpenSpec.upto listSplitsSpec)

/-- 'variantproxylaw07.ListAll', WHERE WHAT IT READS IS OF BULK AT MOST 1048576: true; the input reads as it did. -/
def listAllUptoRow : OpenClaim := { program := "ytlbfadhhejnllaa", sum := "6dc37cf90259c63b0b78527ca45ff4c1bd17f733a99658a4b45f5c6fa9148417", func := "variantproxy/variantproxylaw07.ListAll", spec := "listAll", unfollowed := true, recurses := true, apart := false, narrowed := true }
def ListAllUptoSaid : Prop := listAllUptoRow.holds Try.pinned (OpenSpec.upto listAllSpec)

/-- 'variantproxylaw07.ListBack', WHERE WHAT IT READS IS OF BULK AT MOST 1048576: true; the input reads as it did. -/
def listBackUptoRow : OpenClaim := { program := "ytlbfadhhejnllaa", sum := "6dc37cf90259c63b0b78527ca45ff4c1bd17f733a99658a4b45f5c6fa9148417", func := "variantproxy/variantproxylaw07.ListBack", spec := "listBack", inPlace := ["internal/abi.NoEscape", "internal/bytealg.MakeNoZero"], apart := false, narrowed := true }
def ListBackUptoSaid : Prop := listBackUptoRow.holds Try.pinned (OpenSpec.upto listBackSpec)

/-- 'variantproxylaw07.ListLines', WHERE WHAT IT READS IS OF BULK AT MOST 1048576: true; the input reads as it did. -/
def listLinesUptoRow : OpenClaim := { program := "ytlbfadhhejnllaa", sum := "6dc37cf90259c63b0b78527ca45ff4c1bd17f733a99658a4b45f5c6fa9148417", func := "variantproxy/variantproxylaw07.ListLines", spec := "listLines", unfollowed := true, recurses := true, apart := false, narrowed := true }
def ListLinesUptoSaid : Prop := listLinesUptoRow.holds Try.pinned (OpenSpec.upto listLinesSpec)

end Rows
end Go.Proofs.Ytlbfadhhejnllaa
