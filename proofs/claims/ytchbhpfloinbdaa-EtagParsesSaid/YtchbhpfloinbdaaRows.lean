/-
  No cell of these rows narrows 'for every input' (looked for: loops, veiled, ifaces, maps, wideKeys, modest, calm, conditions, laid).
  DERIVED. THE GIVEN ROWS OF THIS SEAT. 5 by the template 'for every input the law returns true; each argument reads behind the call as it read before'; 0 by the template 'total and deterministic' (their statements: YtchbhpfloinbdaaTotals.lean).
  GIVEN WITH THE SEED: the statements are not yours to turn. If you find one false, say at which input.
  Laid BY PROGRAM, IN A SANDBOX (cutbox-rows.mjs): the forced cells as the released guide's own fill.sh prints them over the translation 04a3e1c7322e4142… (all of the seat's roots in one cut). By AI agents, Wed Nov 11 2026. No macro, syntax, notation, axiom, sorry.
-/
import Derived.Test.YtchbhpfloinbdaaChecked
import GoSem.Claim
import GoSem.ClaimJoined
import GoSem.ClaimMapViews
import Derived.JoinedTies
import Derived.KernelRfl
namespace Go.Proofs.Ytchbhpfloinbdaa
/- THE CELL 'sum', in the pinned program and in every row, IS THE sha256 OF THE DUMP (.gsa) THAT YtchbhpfloinbdaaProg.lean LOADS. Nothing in Lean hashes anything: it is a label: what it is worth is what the hold of that sum in a sandbox is worth. -/
noncomputable def Try.pinned : Pinned := { name := "ytchbhpfloinbdaa", sum := "04a3e1c7322e4142f5c27b610129890ba973c8cfbc2a19e8786460eeed438433", checked := Try.checked }
namespace Rows
def none {H : Type} : Left H := { results := [], args := [] }

/-- 'variantproxylaw21.EtagParses': WHATEVER THE INPUT: true; the input reads as it did. -/
def etagParsesSpec : ChangeSpec := { name := "etagParses", fn := fun _ => fun
  | [d1, d2] => { results := [.lit (.bool true)], args := [d1, d2] }
  | _ => none }
def etagParsesRow : OpenClaim := { program := "ytchbhpfloinbdaa", sum := "04a3e1c7322e4142f5c27b610129890ba973c8cfbc2a19e8786460eeed438433", func := "variantproxy/variantproxylaw21.EtagParses", spec := "etagParses", apart := false }
def EtagParsesSaid : Prop := etagParsesRow.holds Try.pinned (OpenSpec.ofChange etagParsesSpec)

/-- ITS FALSE NEIGHBOUR: 'it returns false'. Refute it at one input. -/
def etagParsesWrong : ChangeSpec := { name := "etagParses", fn := fun _ => fun
  | [d1, d2] => { results := [.lit (.bool false)], args := [d1, d2] }
  | _ => none }
def EtagParsesWrongFalsely : Prop := etagParsesRow.holds Try.pinned (OpenSpec.ofChange etagParsesWrong)

/-- 'variantproxylaw21.EtagLists': WHATEVER THE INPUT: true; the input reads as it did. -/
def etagListsSpec : ChangeSpec := { name := "etagLists", fn := fun _ => fun
  | [d1, d2] => { results := [.lit (.bool true)], args := [d1, d2] }
  | _ => none }
def etagListsRow : OpenClaim := { program := "ytchbhpfloinbdaa", sum := "04a3e1c7322e4142f5c27b610129890ba973c8cfbc2a19e8786460eeed438433", func := "variantproxy/variantproxylaw21.EtagLists", spec := "etagLists", unfollowed := true, recurses := true, apart := false }
def EtagListsSaid : Prop := etagListsRow.holds Try.pinned (OpenSpec.ofChange etagListsSpec)

/-- ITS FALSE NEIGHBOUR: 'it returns false'. Refute it at one input. -/
def etagListsWrong : ChangeSpec := { name := "etagLists", fn := fun _ => fun
  | [d1, d2] => { results := [.lit (.bool false)], args := [d1, d2] }
  | _ => none }
def EtagListsWrongFalsely : Prop := etagListsRow.holds Try.pinned (OpenSpec.ofChange etagListsWrong)

/-- 'variantproxylaw21.EtagCompares': WHATEVER THE INPUT: true; the input reads as it did. -/
def etagComparesSpec : ChangeSpec := { name := "etagCompares", fn := fun _ => fun
  | [d1, d2] => { results := [.lit (.bool true)], args := [d1, d2] }
  | _ => none }
def etagComparesRow : OpenClaim := { program := "ytchbhpfloinbdaa", sum := "04a3e1c7322e4142f5c27b610129890ba973c8cfbc2a19e8786460eeed438433", func := "variantproxy/variantproxylaw21.EtagCompares", spec := "etagCompares", apart := false }
def EtagComparesSaid : Prop := etagComparesRow.holds Try.pinned (OpenSpec.ofChange etagComparesSpec)

/-- ITS FALSE NEIGHBOUR: 'it returns false'. Refute it at one input. -/
def etagComparesWrong : ChangeSpec := { name := "etagCompares", fn := fun _ => fun
  | [d1, d2] => { results := [.lit (.bool false)], args := [d1, d2] }
  | _ => none }
def EtagComparesWrongFalsely : Prop := etagComparesRow.holds Try.pinned (OpenSpec.ofChange etagComparesWrong)

/-- 'variantproxylaw21.EtagBack': WHATEVER THE INPUT: true; the input reads as it did. -/
def etagBackSpec : ChangeSpec := { name := "etagBack", fn := fun _ => fun
  | [d1, d2] => { results := [.lit (.bool true)], args := [d1, d2] }
  | _ => none }
def etagBackRow : OpenClaim := { program := "ytchbhpfloinbdaa", sum := "04a3e1c7322e4142f5c27b610129890ba973c8cfbc2a19e8786460eeed438433", func := "variantproxy/variantproxylaw21.EtagBack", spec := "etagBack", apart := false }
def EtagBackSaid : Prop := etagBackRow.holds Try.pinned (OpenSpec.ofChange etagBackSpec)

/-- ITS FALSE NEIGHBOUR: 'it returns false'. Refute it at one input. -/
def etagBackWrong : ChangeSpec := { name := "etagBack", fn := fun _ => fun
  | [d1, d2] => { results := [.lit (.bool false)], args := [d1, d2] }
  | _ => none }
def EtagBackWrongFalsely : Prop := etagBackRow.holds Try.pinned (OpenSpec.ofChange etagBackWrong)

/-- 'variantproxylaw21.EtagLines': WHATEVER THE INPUT: true; the input reads as it did. -/
def etagLinesSpec : ChangeSpec := { name := "etagLines", fn := fun _ => fun
  | [d1, d2] => { results := [.lit (.bool true)], args := [d1, d2] }
  | _ => none }
def etagLinesRow : OpenClaim := { program := "ytchbhpfloinbdaa", sum := "04a3e1c7322e4142f5c27b610129890ba973c8cfbc2a19e8786460eeed438433", func := "variantproxy/variantproxylaw21.EtagLines", spec := "etagLines", unfollowed := true, recurses := true, apart := false }
def EtagLinesSaid : Prop := etagLinesRow.holds Try.pinned (OpenSpec.ofChange etagLinesSpec)

/-- ITS FALSE NEIGHBOUR: 'it returns false'. Refute it at one input. -/
def etagLinesWrong : ChangeSpec := { name := "etagLines", fn := fun _ => fun
  | [d1, d2] => { results := [.lit (.bool false)], args := [d1, d2] }
  | _ => none }
def EtagLinesWrongFalsely : Prop := etagLinesRow.holds Try.pinned (OpenSpec.ofChange etagLinesWrong)

/- THE SECOND FORM. 'bulk': how many values and letters a reading holds, each counted each time it is reached (what is shared counts as often as it is met; a slice's spare places count too). A statement '..UptoSaid' is the law's where the arguments, and the package variables that the reading takes, are together of bulk at most 1048576: NARROWER than '..Said'. Prove '..Said' where nothing that the law and all that it calls make is longer than what came in: it says more and counts as full. Else prove '..UptoSaid'. A law counts once. -/
mutual
def uptoBulk {H : Type} : DataW H → Nat
  | .lit (.string bytes) => bytes.length + 1
  | .lit _ => 1
  | .nil => 1
  | .ptr d => uptoBulk d + 1
  | .slice elems spare => uptoBulkAll elems + uptoBulkAll spare + 1
  | .agg parts => uptoBulkAll parts + 1
  | .iface _ d => uptoBulk d + 1
  | .map entries => uptoBulkEntries entries + 1
  | .held _ => 1
def uptoBulkAll {H : Type} : List (DataW H) → Nat
  | [] => 0
  | d :: r => uptoBulk d + uptoBulkAll r
def uptoBulkEntries {H : Type} : List (Lit × DataW H) → Nat
  | [] => 0
  | x :: r => uptoBulkEntry x + uptoBulkEntries r
def uptoBulkEntry {H : Type} : Lit × DataW H → Nat
  | (.string bytes, d) => bytes.length + uptoBulk d + 1
  | (_, d) => uptoBulk d + 1
 end
def uptoSmall : (H : Type) → List (DataW H) → Bool := fun _ ds => decide (uptoBulkAll ds ≤ 1048576)
def OpenSpec.upto (s : _root_.Go.ChangeSpec) : _root_.Go.OpenSpec := { _root_.Go.OpenSpec.ofChange s with cond := some uptoSmall }

/-- 'variantproxylaw21.EtagParses', WHERE WHAT IT READS IS OF BULK AT MOST 1048576: true; the input reads as it did. -/
def etagParsesUptoRow : OpenClaim := { program := "ytchbhpfloinbdaa", sum := "04a3e1c7322e4142f5c27b610129890ba973c8cfbc2a19e8786460eeed438433", func := "variantproxy/variantproxylaw21.EtagParses", spec := "etagParses", apart := false, narrowed := true }
def EtagParsesUptoSaid : Prop := etagParsesUptoRow.holds Try.pinned (OpenSpec.upto etagParsesSpec)

/-- 'variantproxylaw21.EtagLists', WHERE WHAT IT READS IS OF BULK AT MOST 1048576: true; the input reads as it did. -/
def etagListsUptoRow : OpenClaim := { program := "ytchbhpfloinbdaa", sum := "04a3e1c7322e4142f5c27b610129890ba973c8cfbc2a19e8786460eeed438433", func := "variantproxy/variantproxylaw21.EtagLists", spec := "etagLists", unfollowed := true, recurses := true, apart := false, narrowed := true }
def EtagListsUptoSaid : Prop := etagListsUptoRow.holds Try.pinned (OpenSpec.upto etagListsSpec)

/-- 'variantproxylaw21.EtagCompares', WHERE WHAT IT READS IS OF BULK AT MOST 1048576: true; the input reads as it did. -/
def etagComparesUptoRow : OpenClaim := { program := "ytchbhpfloinbdaa", sum := "04a3e1c7322e4142f5c27b610129890ba973c8cfbc2a19e8786460eeed438433", func := "variantproxy/variantproxylaw21.EtagCompares", spec := "etagCompares", apart := false, narrowed := true }
def EtagComparesUptoSaid : Prop := etagComparesUptoRow.holds Try.pinned (OpenSpec.upto etagComparesSpec)

/-- 'variantproxylaw21.EtagBack', WHERE WHAT IT READS IS OF BULK AT MOST 1048576: true; the input reads as it did. -/
def etagBackUptoRow : OpenClaim := { program := "ytchbhpfloinbdaa", sum := "04a3e1c7322e4142f5c27b610129890ba973c8cfbc2a19e8786460eeed438433", func := "variantproxy/variantproxylaw21.EtagBack", spec := "etagBack", apart := false, narrowed := true }
def EtagBackUptoSaid : Prop := etagBackUptoRow.holds Try.pinned (OpenSpec.upto etagBackSpec)

/-- 'variantproxylaw21.EtagLines', WHERE WHAT IT READS IS OF BULK AT MOST 1048576: true; the input reads as it did. -/
def etagLinesUptoRow : OpenClaim := { program := "ytchbhpfloinbdaa", sum := "04a3e1c7322e4142f5c27b610129890ba973c8cfbc2a19e8786460eeed438433", func := "variantproxy/variantproxylaw21.EtagLines", spec := "etagLines", unfollowed := true, recurses := true, apart := false, narrowed := true }
def EtagLinesUptoSaid : Prop := etagLinesUptoRow.holds Try.pinned (OpenSpec.upto etagLinesSpec)

end Rows
end Go.Proofs.Ytchbhpfloinbdaa
