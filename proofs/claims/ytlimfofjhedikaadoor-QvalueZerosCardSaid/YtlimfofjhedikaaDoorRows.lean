/-
  NARROWER THAN 'FOR EVERY INPUT', by the rows' own cells (each row's printed sentence says how): QvalueParses: laid · QvalueFormats: laid · QvalueZeros: laid.
  DERIVED. THE GIVEN ROWS OF THIS SEAT. 3 by the template 'for every input the law returns true; each argument reads behind the call as it read before'; 0 by the template 'total and deterministic' (their statements: YtlimfofjhedikaaDoorTotals.lean).
  GIVEN WITH THE SEED: the statements are not yours to turn. If you find one false, say at which input.
  Laid BY PROGRAM, IN A SANDBOX (cutbox-rows.mjs): the forced cells as the released guide's own fill.sh prints them over the translation 3229a93a2b6cc1b6… (all of the seat's roots in one cut). By AI agents, Wed Nov 11 2026. No macro, syntax, notation, axiom, sorry.
-/
import Derived.Test.YtlimfofjhedikaaDoorChecked
import GoSem.Claim
import GoSem.ClaimJoined
import GoSem.ClaimMapViews
import Derived.JoinedTies
import Derived.KernelRfl
namespace Go.Proofs.YtlimfofjhedikaaDoor
/- THE CELL 'sum', in the pinned program and in every row, IS THE sha256 OF THE DUMP (.gsa) THAT YtlimfofjhedikaaDoorProg.lean LOADS. Nothing in Lean hashes anything: it is a label: what it is worth is what the hold of that sum in a sandbox is worth. -/
noncomputable def Tryd.pinned : Pinned := { name := "ytlimfofjhedikaadoor", sum := "3229a93a2b6cc1b658b309107e9a631d1f713c20faf3d2f65e85ede0504da260", checked := Tryd.checked }
namespace Rows
def none {H : Type} : Left H := { results := [], args := [] }

/- WHAT THE LISTED PACKAGE-LEVEL VARIABLES READ AS WHEN THE CALL BEGINS. Each datum BY PROGRAM (the guide's laid-datum.mjs) off the statement by which the dump's own 'gosem.cut.vars' lays the variable. In a bare row this is a premise. The card (YtlimfofjhedikaaDoorCards.lean) ties it to the program's text. -/
def laid_variantproxy_qvalue_weights {H : Type} : DataW H := .agg [.lit (.int .i64 100), .lit (.int .i64 10), .lit (.int .i64 1)]

/-- 'variantproxylaw08.QvalueParses': WHATEVER THE INPUT: true; the input reads as it did. -/
def qvalueParsesSpec : ChangeSpec := { name := "qvalueParses", fn := fun _ => fun
  | [d] => { results := [.lit (.bool true)], args := [d] }
  | _ => none }
def qvalueParsesRow : OpenClaim := { program := "ytlimfofjhedikaadoor", sum := "3229a93a2b6cc1b658b309107e9a631d1f713c20faf3d2f65e85ede0504da260", func := "variantproxy/variantproxylaw08.QvalueParses", spec := "qvalueParses", named := ["variantproxy/qvalue.weights"], apart := false, laid := [("variantproxy/qvalue.weights", laid_variantproxy_qvalue_weights)] }
def QvalueParsesSaid : Prop := qvalueParsesRow.holds Tryd.pinned (OpenSpec.ofChange qvalueParsesSpec)

/-- ITS FALSE NEIGHBOUR: 'it returns false'. Refute it at one input. -/
def qvalueParsesWrong : ChangeSpec := { name := "qvalueParses", fn := fun _ => fun
  | [d] => { results := [.lit (.bool false)], args := [d] }
  | _ => none }
def QvalueParsesWrongFalsely : Prop := qvalueParsesRow.holds Tryd.pinned (OpenSpec.ofChange qvalueParsesWrong)

/-- 'variantproxylaw08.QvalueFormats': WHATEVER THE INPUT: true; the input reads as it did. -/
def qvalueFormatsSpec : ChangeSpec := { name := "qvalueFormats", fn := fun _ => fun
  | [d] => { results := [.lit (.bool true)], args := [d] }
  | _ => none }
def qvalueFormatsRow : OpenClaim := { program := "ytlimfofjhedikaadoor", sum := "3229a93a2b6cc1b658b309107e9a631d1f713c20faf3d2f65e85ede0504da260", func := "variantproxy/variantproxylaw08.QvalueFormats", spec := "qvalueFormats", named := ["variantproxy/qvalue.weights"], apart := false, laid := [("variantproxy/qvalue.weights", laid_variantproxy_qvalue_weights)] }
def QvalueFormatsSaid : Prop := qvalueFormatsRow.holds Tryd.pinned (OpenSpec.ofChange qvalueFormatsSpec)

/-- ITS FALSE NEIGHBOUR: 'it returns false'. Refute it at one input. -/
def qvalueFormatsWrong : ChangeSpec := { name := "qvalueFormats", fn := fun _ => fun
  | [d] => { results := [.lit (.bool false)], args := [d] }
  | _ => none }
def QvalueFormatsWrongFalsely : Prop := qvalueFormatsRow.holds Tryd.pinned (OpenSpec.ofChange qvalueFormatsWrong)

/-- 'variantproxylaw08.QvalueZeros': WHATEVER THE INPUT: true; the input reads as it did. -/
def qvalueZerosSpec : ChangeSpec := { name := "qvalueZeros", fn := fun _ => fun
  | [d] => { results := [.lit (.bool true)], args := [d] }
  | _ => none }
def qvalueZerosRow : OpenClaim := { program := "ytlimfofjhedikaadoor", sum := "3229a93a2b6cc1b658b309107e9a631d1f713c20faf3d2f65e85ede0504da260", func := "variantproxy/variantproxylaw08.QvalueZeros", spec := "qvalueZeros", named := ["variantproxy/qvalue.weights"], apart := false, laid := [("variantproxy/qvalue.weights", laid_variantproxy_qvalue_weights)] }
def QvalueZerosSaid : Prop := qvalueZerosRow.holds Tryd.pinned (OpenSpec.ofChange qvalueZerosSpec)

/-- ITS FALSE NEIGHBOUR: 'it returns false'. Refute it at one input. -/
def qvalueZerosWrong : ChangeSpec := { name := "qvalueZeros", fn := fun _ => fun
  | [d] => { results := [.lit (.bool false)], args := [d] }
  | _ => none }
def QvalueZerosWrongFalsely : Prop := qvalueZerosRow.holds Tryd.pinned (OpenSpec.ofChange qvalueZerosWrong)

/- THE SECOND FORM. 'bulk': how many values and letters a reading holds, each counted each time it is reached (what is shared counts as often as it is met; a slice's spare places count too). A statement '..UptoSaid' is the law's where the arguments, and the package variables that the reading takes, are together of bulk at most 1048576: NARROWER than '..Said'. Prove '..Said' where nothing that the law and all that it calls make is longer than what came in: it says more and counts as full. Else prove '..UptoSaid'. A law counts once. -/
mutual
def uptoBulk {H : Type} : DataW H → Nat
  | .lit (.string bytes) => bytes.length + 1
  | .lit _ => 1
  | .nil => 1
  | .ptr d => uptoBulk d + 1
  | .slice elems spare => uptoBulkAll elems + uptoBulkAll spare + 1
  | .agg parts => uptoBulkAll parts + 1
  | .iface _ d => uptoBulk d + 1
  | .map entries => uptoBulkEntries entries + 1
  | .held _ => 1
def uptoBulkAll {H : Type} : List (DataW H) → Nat
  | [] => 0
  | d :: r => uptoBulk d + uptoBulkAll r
def uptoBulkEntries {H : Type} : List (Lit × DataW H) → Nat
  | [] => 0
  | x :: r => uptoBulkEntry x + uptoBulkEntries r
def uptoBulkEntry {H : Type} : Lit × DataW H → Nat
  | (.string bytes, d) => bytes.length + uptoBulk d + 1
  | (_, d) => uptoBulk d + 1
 end
def uptoSmall : (H : Type) → List (DataW H) → Bool := fun _ ds => decide (uptoBulkAll ds ≤ 1048576)
def OpenSpec.upto (s : _root_.Go.ChangeSpec) : _root_.Go.OpenSpec := { _root_.Go.OpenSpec.ofChange s with cond := some uptoSmall }

/-- 'variantproxylaw08.QvalueParses', WHERE WHAT IT READS IS OF BULK AT MOST 1048576: true; the input reads as it did. -/
def qvalueParsesUptoRow : OpenClaim := { program := "ytlimfofjhedikaadoor", sum := "3229a93a2b6cc1b658b309107e9a631d1f713c20faf3d2f65e85ede0504da260", func := "variantproxy/variantproxylaw08.QvalueParses", spec := "qvalueParses", named := ["variantproxy/qvalue.weights"], apart := false, laid := [("variantproxy/qvalue.weights", laid_variantproxy_qvalue_weights)], narrowed := true }
def QvalueParsesUptoSaid : Prop := qvalueParsesUptoRow.holds Tryd.pinned (OpenSpec.upto qvalueParsesSpec)

/-- 'variantproxylaw08.QvalueFormats', WHERE WHAT IT READS IS OF BULK AT MOST 1048576: true; the input reads as it did. -/
def qvalueFormatsUptoRow : OpenClaim := { program := "ytlimfofjhedikaadoor", sum := "3229a93a2b6cc1b658b309107e9a631d1f713c20faf3d2f65e85ede0504da260", func := "variantproxy/variantproxylaw08.QvalueFormats", spec := "qvalueFormats", named := ["variantproxy/qvalue.weights"], apart := false, laid := [("variantproxy/qvalue.weights", laid_variantproxy_qvalue_weights)], narrowed := true }
def QvalueFormatsUptoSaid : Prop := qvalueFormatsUptoRow.holds Tryd.pinned (OpenSpec.upto qvalueFormatsSpec)

/-- 'variantproxylaw08.QvalueZeros', WHERE WHAT IT READS IS OF BULK AT MOST 1048576: true; the input reads as it did. -/
def qvalueZerosUptoRow : OpenClaim := { program := "ytlimfofjhedikaadoor", sum := "3229a93a2b6cc1b658b309107e9a631d1f713c20faf3d2f65e85ede0504da260", func := "variantproxy/variantproxylaw08.QvalueZeros", spec := "qvalueZeros", named := ["variantproxy/qvalue.weights"], apart := false, laid := [("variantproxy/qvalue.weights", laid_variantproxy_qvalue_weights)], narrowed := true }
def QvalueZerosUptoSaid : Prop := qvalueZerosUptoRow.holds Tryd.pinned (OpenSpec.upto qvalueZerosSpec)

end Rows
end Go.Proofs.YtlimfofjhedikaaDoor
