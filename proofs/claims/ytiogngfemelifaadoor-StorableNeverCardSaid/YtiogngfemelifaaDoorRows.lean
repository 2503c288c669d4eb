/-
  NARROWER THAN 'FOR EVERY INPUT', by the rows' own cells (each row's printed sentence says how): StorableNever: laid.
  DERIVED. THE GIVEN ROWS OF THIS SEAT. 1 by the template 'for every input the law returns true; each argument reads behind the call as it read before'; 0 by the template 'total and deterministic' (their statements: YtiogngfemelifaaDoorTotals.lean).
  GIVEN WITH THE SEED: the statements are not yours to turn. If you find one false, say at which input.
  Laid BY PROGRAM, IN A SANDBOX (cutbox-rows.mjs): the forced cells as the released guide's own fill.sh prints them over the translation 0a0bb55cfc9c59bd… (all of the seat's roots in one cut). By AI agents, Wed Nov 11 2026. No macro, syntax, notation, axiom, sorry.
-/
import Derived.Test.YtiogngfemelifaaDoorChecked
import GoSem.Claim
import GoSem.ClaimJoined
import GoSem.ClaimMapViews
import Derived.JoinedTies
import Derived.KernelRfl
namespace Go.Proofs.YtiogngfemelifaaDoor
/- THE CELL 'sum', in the pinned program and in every row, IS THE sha256 OF THE DUMP (.gsa) THAT YtiogngfemelifaaDoorProg.lean LOADS. Nothing in Lean hashes anything: it is a label: what it is worth is what the hold of that sum in a sandbox is worth. -/
noncomputable def Tryd.pinned : Pinned := { name := "ytiogngfemelifaadoor", sum := "0a0bb55cfc9c59bd7ea5a5a232583c5bd273746aa49fe8c83fcca2340591761e", checked := Tryd.checked }
namespace Rows
def none {H : Type} : Left H := { results := [], args := [] }

/- WHAT THE LISTED PACKAGE-LEVEL VARIABLES READ AS WHEN THE CALL BEGINS. Each datum BY PROGRAM (the guide's laid-datum.mjs) off the statement by which the dump's own 'gosem.cut.vars' lays the variable. In a bare row this is a premise. The card (YtiogngfemelifaaDoorCards.lean) ties it to the program's text. -/
def laid_variantproxy_date_weekdays {H : Type} : DataW H := .agg [.lit (.string [84, 104, 117]), .lit (.string [70, 114, 105]), .lit (.string [83, 97, 116]), .lit (.string [83, 117, 110]), .lit (.string [77, 111, 110]), .lit (.string [84, 117, 101]), .lit (.string [87, 101, 100])]
def laid_variantproxy_date_months {H : Type} : DataW H := .agg [.lit (.string [74, 97, 110]), .lit (.string [70, 101, 98]), .lit (.string [77, 97, 114]), .lit (.string [65, 112, 114]), .lit (.string [77, 97, 121]), .lit (.string [74, 117, 110]), .lit (.string [74, 117, 108]), .lit (.string [65, 117, 103]), .lit (.string [83, 101, 112]), .lit (.string [79, 99, 116]), .lit (.string [78, 111, 118]), .lit (.string [68, 101, 99])]
def laid_variantproxy_date_monthLengths {H : Type} : DataW H := .agg [.lit (.int .i64 31), .lit (.int .i64 28), .lit (.int .i64 31), .lit (.int .i64 30), .lit (.int .i64 31), .lit (.int .i64 30), .lit (.int .i64 31), .lit (.int .i64 31), .lit (.int .i64 30), .lit (.int .i64 31), .lit (.int .i64 30), .lit (.int .i64 31)]

/-- 'variantproxylaw24.StorableNever': WHATEVER THE INPUT: true; the input reads as it did. -/
def storableNeverSpec : ChangeSpec := { name := "storableNever", fn := fun _ => fun
  | [d1, d2, d3, d4] => { results := [.lit (.bool true)], args := [d1, d2, d3, d4] }
  | _ => none }
def storableNeverRow : OpenClaim := { program := "ytiogngfemelifaadoor", sum := "0a0bb55cfc9c59bd7ea5a5a232583c5bd273746aa49fe8c83fcca2340591761e", func := "variantproxy/variantproxylaw24.StorableNever", spec := "storableNever", unfollowed := true, recurses := true, named := ["variantproxy/date.months", "variantproxy/date.monthLengths", "variantproxy/date.weekdays"], apart := false, laid := [("variantproxy/date.weekdays", laid_variantproxy_date_weekdays), ("variantproxy/date.months", laid_variantproxy_date_months), ("variantproxy/date.monthLengths", laid_variantproxy_date_monthLengths)] }
def StorableNeverSaid : Prop := storableNeverRow.holds Tryd.pinned (OpenSpec.ofChange storableNeverSpec)

/-- ITS FALSE NEIGHBOUR: 'it returns false'. Refute it at one input. -/
def storableNeverWrong : ChangeSpec := { name := "storableNever", fn := fun _ => fun
  | [d1, d2, d3, d4] => { results := [.lit (.bool false)], args := [d1, d2, d3, d4] }
  | _ => none }
def StorableNeverWrongFalsely : Prop := storableNeverRow.holds Tryd.pinned (OpenSpec.ofChange storableNeverWrong)

/- THE SECOND FORM. 'bulk': how many values and letters a reading holds, each counted each time it is reached (what is shared counts as often as it is met; a slice's spare places count too). A statement '..UptoSaid' is the law's where the arguments, and the package variables that the reading takes, are together of bulk at most 1048576: NARROWER than '..Said'. Prove '..Said' where nothing that the law and all that it calls make is longer than what came in: it says more and counts as full. Else prove '..UptoSaid'. A law counts once. -/
mutual
def uptoBulk {H : Type} : DataW H → Nat
  | .lit (.string bytes) => bytes.length + 1
  | .lit _ => 1
  | .nil => 1
  | .ptr d => uptoBulk d + 1
  | .slice elems spare => uptoBulkAll elems + uptoBulkAll spare + 1
  | .agg parts => uptoBulkAll parts + 1
  | .iface _ d => uptoBulk d + 1
  | .map entries => uptoBulkEntries entries + 1
  | .held _ => 1
def uptoBulkAll {H : Type} : List (DataW H) → Nat
  | [] => 0
  | d :: r => uptoBulk d + uptoBulkAll r
def uptoBulkEntries {H : Type} : List (Lit × DataW H) → Nat
  | [] => 0
  | x :: r => uptoBulkEntry x + uptoBulkEntries r
def uptoBulkEntry {H : Type} : Lit × DataW H → Nat
  | (.string bytes, d) => bytes.length + uptoBulk d + 1
  | (_, d) => uptoBulk d + 1
 end
def uptoSmall : (H : Type) → List (DataW H) → Bool := fun _ ds => decide (uptoBulkAll ds ≤ 1048576)
def OpenSpec.upto (s : _root_.Go.ChangeSpec) : _root_.Go.OpenSpec := { _root_.Go.OpenSpec.ofChange s with cond := some uptoSmall }

/-- 'variantproxylaw24.StorableNever', WHERE WHAT IT READS IS OF BULK AT MOST 1048576: true; the input reads as it did. -/
def storableNeverUptoRow : OpenClaim := { program := "ytiogngfemelifaadoor", sum := "0a0bb55cfc9c59bd7ea5a5a232583c5bd273746aa49fe8c83fcca2340591761e", func := "variantproxy/variantproxylaw24.StorableNever", spec := "storableNever", unfollowed := true, recurses := true, named := ["variantproxy/date.months", "variantproxy/date.monthLengths", "variantproxy/date.weekdays"], apart := false, laid := [("variantproxy/date.weekdays", laid_variantproxy_date_weekdays), ("variantproxy/date.months", laid_variantproxy_date_months), ("variantproxy/date.monthLengths", laid_variantproxy_date_monthLengths)], narrowed := true }
def StorableNeverUptoSaid : Prop := storableNeverUptoRow.holds Tryd.pinned (OpenSpec.upto storableNeverSpec)

end Rows
end Go.Proofs.YtiogngfemelifaaDoor
