/-
  NARROWER THAN 'FOR EVERY INPUT', by the rows' own cells (each row's printed sentence says how): ClassClasses: laid · ClassNormalizes: laid · ClassDecides: laid · ClassLines: laid · ClassCases: laid · ClassUnavailable: laid · ClassNormal: laid.
  DERIVED. THE GIVEN ROWS OF THIS SEAT. 7 by the template 'for every input the law returns true; each argument reads behind the call as it read before'; 0 by the template 'total and deterministic' (their statements: YtklfpkaemnhdhaaGreatDoorTotals.lean).
  GIVEN WITH THE SEED: the statements are not yours to turn. If you find one false, say at which input.
  Laid BY PROGRAM, IN A SANDBOX (cutbox-rows.mjs): the forced cells as the released guide's own fill.sh prints them over the translation 168173844f0723ae… (all of the seat's roots in one cut). By AI agents, Wed Nov 11 2026. No macro, syntax, notation, axiom, sorry.
-/
import Derived.Test.YtklfpkaemnhdhaaGreatDoorChecked
import GoSem.Claim
import GoSem.ClaimJoined
import GoSem.ClaimMapViews
import Derived.JoinedTies
import Derived.KernelRfl
namespace Go.Proofs.YtklfpkaemnhdhaaGreatDoor
/- THE CELL 'sum', in the pinned program and in every row, IS THE sha256 OF THE DUMP (.gsa) THAT YtklfpkaemnhdhaaGreatDoorProg.lean LOADS. Nothing in Lean hashes anything: it is a label: what it is worth is what the hold of that sum in a sandbox is worth. -/
noncomputable def Tryz.pinned : Pinned := { name := "ytklfpkaemnhdhaagreatdoor", sum := "168173844f0723aea1e9285e4a5a3f20ad91406a2d2b0653581a49a2898e2cad", checked := Tryz.checked }
namespace Rows
def none {H : Type} : Left H := { results := [], args := [] }

/- WHAT THE LISTED PACKAGE-LEVEL VARIABLES READ AS WHEN THE CALL BEGINS. Each datum BY PROGRAM (the guide's laid-datum.mjs) off the statement by which the dump's own 'gosem.cut.vars' lays the variable. In a bare row this is a premise. The card (YtklfpkaemnhdhaaGreatDoorCards.lean) ties it to the program's text. -/
def laid_variantproxy_qvalue_weights {H : Type} : DataW H := .agg [.lit (.int .i64 100), .lit (.int .i64 10), .lit (.int .i64 1)]

/-- 'variantproxylaw18.ClassClasses': WHATEVER THE INPUT: true; the input reads as it did. -/
def classClassesSpec : ChangeSpec := { name := "classClasses", fn := fun _ => fun
  | [d1, d2, d3, d4] => { results := [.lit (.bool true)], args := [d1, d2, d3, d4] }
  | _ => none }
def classClassesRow : OpenClaim := { program := "ytklfpkaemnhdhaagreatdoor", sum := "168173844f0723aea1e9285e4a5a3f20ad91406a2d2b0653581a49a2898e2cad", func := "variantproxy/variantproxylaw18.ClassClasses", spec := "classClasses", inPlace := ["internal/abi.NoEscape", "internal/bytealg.IndexByteString", "internal/bytealg.IndexString", "internal/bytealg.CountString", "slices.overlaps[variantproxy/rank.level]", "internal/bytealg.MakeNoZero"], unfollowed := true, recurses := true, named := ["internal/bytealg.MaxLen", "variantproxy/qvalue.weights"], plainKeys := false, apart := false, laid := [("variantproxy/qvalue.weights", laid_variantproxy_qvalue_weights)] }
def ClassClassesSaid : Prop := classClassesRow.holds Tryz.pinned (OpenSpec.ofChange classClassesSpec)

/-- ITS FALSE NEIGHBOUR: 'it returns false'. Refute it at one input. -/
def classClassesWrong : ChangeSpec := { name := "classClasses", fn := fun _ => fun
  | [d1, d2, d3, d4] => { results := [.lit (.bool false)], args := [d1, d2, d3, d4] }
  | _ => none }
def ClassClassesWrongFalsely : Prop := classClassesRow.holds Tryz.pinned (OpenSpec.ofChange classClassesWrong)

/-- 'variantproxylaw18.ClassNormalizes': WHATEVER THE INPUT: true; the input reads as it did. -/
def classNormalizesSpec : ChangeSpec := { name := "classNormalizes", fn := fun _ => fun
  | [d1, d2, d3] => { results := [.lit (.bool true)], args := [d1, d2, d3] }
  | _ => none }
def classNormalizesRow : OpenClaim := { program := "ytklfpkaemnhdhaagreatdoor", sum := "168173844f0723aea1e9285e4a5a3f20ad91406a2d2b0653581a49a2898e2cad", func := "variantproxy/variantproxylaw18.ClassNormalizes", spec := "classNormalizes", inPlace := ["internal/bytealg.IndexByteString", "internal/bytealg.IndexString", "internal/abi.NoEscape", "internal/bytealg.CountString", "internal/bytealg.MakeNoZero", "slices.overlaps[variantproxy/rank.level]"], unfollowed := true, recurses := true, named := ["internal/bytealg.MaxLen", "variantproxy/qvalue.weights"], plainKeys := false, apart := false, laid := [("variantproxy/qvalue.weights", laid_variantproxy_qvalue_weights)] }
def ClassNormalizesSaid : Prop := classNormalizesRow.holds Tryz.pinned (OpenSpec.ofChange classNormalizesSpec)

/-- ITS FALSE NEIGHBOUR: 'it returns false'. Refute it at one input. -/
def classNormalizesWrong : ChangeSpec := { name := "classNormalizes", fn := fun _ => fun
  | [d1, d2, d3] => { results := [.lit (.bool false)], args := [d1, d2, d3] }
  | _ => none }
def ClassNormalizesWrongFalsely : Prop := classNormalizesRow.holds Tryz.pinned (OpenSpec.ofChange classNormalizesWrong)

/-- 'variantproxylaw18.ClassDecides': WHATEVER THE INPUT: true; the input reads as it did. -/
def classDecidesSpec : ChangeSpec := { name := "classDecides", fn := fun _ => fun
  | [d1, d2, d3, d4] => { results := [.lit (.bool true)], args := [d1, d2, d3, d4] }
  | _ => none }
def classDecidesRow : OpenClaim := { program := "ytklfpkaemnhdhaagreatdoor", sum := "168173844f0723aea1e9285e4a5a3f20ad91406a2d2b0653581a49a2898e2cad", func := "variantproxy/variantproxylaw18.ClassDecides", spec := "classDecides", inPlace := ["internal/abi.NoEscape", "internal/bytealg.IndexByteString", "internal/bytealg.IndexString", "internal/bytealg.CountString", "slices.overlaps[variantproxy/rank.level]", "internal/bytealg.MakeNoZero"], unfollowed := true, recurses := true, named := ["internal/bytealg.MaxLen", "variantproxy/qvalue.weights"], plainKeys := false, apart := false, laid := [("variantproxy/qvalue.weights", laid_variantproxy_qvalue_weights)] }
def ClassDecidesSaid : Prop := classDecidesRow.holds Tryz.pinned (OpenSpec.ofChange classDecidesSpec)

/-- ITS FALSE NEIGHBOUR: 'it returns false'. Refute it at one input. -/
def classDecidesWrong : ChangeSpec := { name := "classDecides", fn := fun _ => fun
  | [d1, d2, d3, d4] => { results := [.lit (.bool false)], args := [d1, d2, d3, d4] }
  | _ => none }
def ClassDecidesWrongFalsely : Prop := classDecidesRow.holds Tryz.pinned (OpenSpec.ofChange classDecidesWrong)

/-- 'variantproxylaw18.ClassLines': WHATEVER THE INPUT: true; the input reads as it did. -/
def classLinesSpec : ChangeSpec := { name := "classLines", fn := fun _ => fun
  | [d1, d2, d3, d4, d5, d6] => { results := [.lit (.bool true)], args := [d1, d2, d3, d4, d5, d6] }
  | _ => none }
def classLinesRow : OpenClaim := { program := "ytklfpkaemnhdhaagreatdoor", sum := "168173844f0723aea1e9285e4a5a3f20ad91406a2d2b0653581a49a2898e2cad", func := "variantproxy/variantproxylaw18.ClassLines", spec := "classLines", inPlace := ["internal/abi.NoEscape", "internal/bytealg.IndexByteString", "internal/bytealg.IndexString", "internal/bytealg.CountString", "slices.overlaps[variantproxy/rank.level]", "internal/bytealg.MakeNoZero"], unfollowed := true, recurses := true, named := ["internal/bytealg.MaxLen", "variantproxy/qvalue.weights"], plainKeys := false, apart := false, laid := [("variantproxy/qvalue.weights", laid_variantproxy_qvalue_weights)] }
def ClassLinesSaid : Prop := classLinesRow.holds Tryz.pinned (OpenSpec.ofChange classLinesSpec)

/-- ITS FALSE NEIGHBOUR: 'it returns false'. Refute it at one input. -/
def classLinesWrong : ChangeSpec := { name := "classLines", fn := fun _ => fun
  | [d1, d2, d3, d4, d5, d6] => { results := [.lit (.bool false)], args := [d1, d2, d3, d4, d5, d6] }
  | _ => none }
def ClassLinesWrongFalsely : Prop := classLinesRow.holds Tryz.pinned (OpenSpec.ofChange classLinesWrong)

/-- 'variantproxylaw18.ClassCases': WHATEVER THE INPUT: true; the input reads as it did. -/
def classCasesSpec : ChangeSpec := { name := "classCases", fn := fun _ => fun
  | [d1, d2, d3] => { results := [.lit (.bool true)], args := [d1, d2, d3] }
  | _ => none }
def classCasesRow : OpenClaim := { program := "ytklfpkaemnhdhaagreatdoor", sum := "168173844f0723aea1e9285e4a5a3f20ad91406a2d2b0653581a49a2898e2cad", func := "variantproxy/variantproxylaw18.ClassCases", spec := "classCases", inPlace := ["internal/abi.NoEscape", "internal/bytealg.IndexByteString", "internal/bytealg.IndexString", "internal/bytealg.CountString", "slices.overlaps[variantproxy/rank.level]", "internal/bytealg.MakeNoZero"], unfollowed := true, recurses := true, named := ["internal/bytealg.MaxLen", "variantproxy/qvalue.weights"], plainKeys := false, apart := false, laid := [("variantproxy/qvalue.weights", laid_variantproxy_qvalue_weights)] }
def ClassCasesSaid : Prop := classCasesRow.holds Tryz.pinned (OpenSpec.ofChange classCasesSpec)

/-- ITS FALSE NEIGHBOUR: 'it returns false'. Refute it at one input. -/
def classCasesWrong : ChangeSpec := { name := "classCases", fn := fun _ => fun
  | [d1, d2, d3] => { results := [.lit (.bool false)], args := [d1, d2, d3] }
  | _ => none }
def ClassCasesWrongFalsely : Prop := classCasesRow.holds Tryz.pinned (OpenSpec.ofChange classCasesWrong)

/-- 'variantproxylaw18.ClassUnavailable': WHATEVER THE INPUT: true; the input reads as it did. -/
def classUnavailableSpec : ChangeSpec := { name := "classUnavailable", fn := fun _ => fun
  | [d1, d2, d3, d4, d5, d6, d7] => { results := [.lit (.bool true)], args := [d1, d2, d3, d4, d5, d6, d7] }
  | _ => none }
def classUnavailableRow : OpenClaim := { program := "ytklfpkaemnhdhaagreatdoor", sum := "168173844f0723aea1e9285e4a5a3f20ad91406a2d2b0653581a49a2898e2cad", func := "variantproxy/variantproxylaw18.ClassUnavailable", spec := "classUnavailable", inPlace := ["internal/abi.NoEscape", "internal/bytealg.IndexByteString", "internal/bytealg.IndexString", "internal/bytealg.CountString", "slices.overlaps[variantproxy/rank.level]", "internal/bytealg.MakeNoZero"], unfollowed := true, recurses := true, named := ["internal/bytealg.MaxLen", "variantproxy/qvalue.weights"], plainKeys := false, apart := false, laid := [("variantproxy/qvalue.weights", laid_variantproxy_qvalue_weights)] }
def ClassUnavailableSaid : Prop := classUnavailableRow.holds Tryz.pinned (OpenSpec.ofChange classUnavailableSpec)

/-- ITS FALSE NEIGHBOUR: 'it returns false'. Refute it at one input. -/
def classUnavailableWrong : ChangeSpec := { name := "classUnavailable", fn := fun _ => fun
  | [d1, d2, d3, d4, d5, d6, d7] => { results := [.lit (.bool false)], args := [d1, d2, d3, d4, d5, d6, d7] }
  | _ => none }
def ClassUnavailableWrongFalsely : Prop := classUnavailableRow.holds Tryz.pinned (OpenSpec.ofChange classUnavailableWrong)

/-- 'variantproxylaw18.ClassNormal': WHATEVER THE INPUT: true; the input reads as it did. -/
def classNormalSpec : ChangeSpec := { name := "classNormal", fn := fun _ => fun
  | [d1, d2, d3, d4] => { results := [.lit (.bool true)], args := [d1, d2, d3, d4] }
  | _ => none }
def classNormalRow : OpenClaim := { program := "ytklfpkaemnhdhaagreatdoor", sum := "168173844f0723aea1e9285e4a5a3f20ad91406a2d2b0653581a49a2898e2cad", func := "variantproxy/variantproxylaw18.ClassNormal", spec := "classNormal", inPlace := ["internal/bytealg.IndexByteString", "internal/bytealg.IndexString", "internal/abi.NoEscape", "internal/bytealg.CountString", "internal/bytealg.MakeNoZero", "slices.overlaps[variantproxy/rank.level]"], unfollowed := true, recurses := true, named := ["internal/bytealg.MaxLen", "variantproxy/qvalue.weights"], plainKeys := false, apart := false, laid := [("variantproxy/qvalue.weights", laid_variantproxy_qvalue_weights)] }
def ClassNormalSaid : Prop := classNormalRow.holds Tryz.pinned (OpenSpec.ofChange classNormalSpec)

/-- ITS FALSE NEIGHBOUR: 'it returns false'. Refute it at one input. -/
def classNormalWrong : ChangeSpec := { name := "classNormal", fn := fun _ => fun
  | [d1, d2, d3, d4] => { results := [.lit (.bool false)], args := [d1, d2, d3, d4] }
  | _ => none }
def ClassNormalWrongFalsely : Prop := classNormalRow.holds Tryz.pinned (OpenSpec.ofChange classNormalWrong)

/- THE SECOND FORM. 'bulk': how many values and letters a reading holds, each counted each time it is reached (what is shared counts as often as it is met; a slice's spare places count too). A statement '..UptoSaid' is the law's where the arguments, and the package variables that the reading takes, are together of bulk at most 1048576: NARROWER than '..Said'. Prove '..Said' where nothing that the law and all that it calls make is longer than what came in: it says more and counts as full. Else prove '..UptoSaid'. A law counts once. -/
mutual
def uptoBulk {H : Type} : DataW H → Nat
  | .lit (.string bytes) => bytes.length + 1
  | .lit _ => 1
  | .nil => 1
  | .ptr d => uptoBulk d + 1
  | .slice elems spare => uptoBulkAll elems + uptoBulkAll spare + 1
  | .agg parts => uptoBulkAll parts + 1
  | .iface _ d => uptoBulk d + 1
  | .map entries => uptoBulkEntries entries + 1
  | .held _ => 1
def uptoBulkAll {H : Type} : List (DataW H) → Nat
  | [] => 0
  | d :: r => uptoBulk d + uptoBulkAll r
def uptoBulkEntries {H : Type} : List (Lit × DataW H) → Nat
  | [] => 0
  | x :: r => uptoBulkEntry x + uptoBulkEntries r
def uptoBulkEntry {H : Type} : Lit × DataW H → Nat
  | (.string bytes, d) => bytes.length + uptoBulk d + 1
  | (_, d) => uptoBulk d + 1
 end
def uptoSmall : (H : Type) → List (DataW H) → Bool := fun _ ds => decide (uptoBulkAll ds ≤ 1048576)
def OpenSpec.upto (s : _root_.Go.ChangeSpec) : _root_.Go.OpenSpec := { _root_.Go.OpenSpec.ofChange s with cond := some uptoSmall }

/-- 'variantproxylaw18.ClassClasses', WHERE WHAT IT READS IS OF BULK AT MOST 1048576: true; the input reads as it did. -/
def classClassesUptoRow : OpenClaim := { program := "ytklfpkaemnhdhaagreatdoor", sum := "168173844f0723aea1e9285e4a5a3f20ad91406a2d2b0653581a49a2898e2cad", func := "variantproxy/variantproxylaw18.ClassClasses", spec := "classClasses", inPlace := ["internal/abi.NoEscape", "internal/bytealg.IndexByteString", "internal/bytealg.IndexString", "internal/bytealg.CountString", "slices.overlaps[variantproxy/rank.level]", "internal/bytealg.MakeNoZero"], unfollowed := true, recurses := true, named := ["internal/bytealg.MaxLen", "variantproxy/qvalue.weights"], plainKeys := false, apart := false, laid := [("variantproxy/qvalue.weights", laid_variantproxy_qvalue_weights)], narrowed := true }
def ClassClassesUptoSaid : Prop := classClassesUptoRow.holds Tryz.pinned (OpenSpec.upto classClassesSpec)

/-- 'variantproxylaw18.ClassNormalizes', WHERE WHAT IT READS IS OF BULK AT MOST 1048576: true; the input reads as it did. -/
def classNormalizesUptoRow : OpenClaim := { program := "ytklfpkaemnhdhaagreatdoor", sum := "168173844f0723aea1e9285e4a5a3f20ad91406a2d2b0653581a49a2898e2cad", func := "variantproxy/variantproxylaw18.ClassNormalizes", spec := "classNormalizes", inPlace := ["internal/bytealg.IndexByteString", "internal/bytealg.IndexString", "internal/abi.NoEscape", "internal/bytealg.CountString", "internal/bytealg.MakeNoZero", "slices.overlaps[variantproxy/rank.level]"], unfollowed := true, recurses := true, named := ["internal/bytealg.MaxLen", "variantproxy/qvalue.weights"], plainKeys := false, apart := false, laid := [("variantproxy/qvalue.weights", laid_variantproxy_qvalue_weights)], narrowed := true }
def ClassNormalizesUptoSaid : Prop := classNormalizesUptoRow.holds Tryz.pinned (OpenSpec.upto classNormalizesSpec)

/-- 'variantproxylaw18.ClassDecides', WHERE WHAT IT READS IS OF BULK AT MOST 1048576: true; the input reads as it did. -/
def classDecidesUptoRow : OpenClaim := { program := "ytklfpkaemnhdhaagreatdoor", sum := "168173844f0723aea1e9285e4a5a3f20ad91406a2d2b0653581a49a2898e2cad", func := "variantproxy/variantproxylaw18.ClassDecides", spec := "classDecides", inPlace := ["internal/abi.NoEscape", "internal/bytealg.IndexByteString", "internal/bytealg.IndexString", "internal/bytealg.CountString", "slices.overlaps[variantproxy/rank.level]", "internal/bytealg.MakeNoZero"], unfollowed := true, recurses := true, named := ["internal/bytealg.MaxLen", "variantproxy/qvalue.weights"], plainKeys := false, apart := false, laid := [("variantproxy/qvalue.weights", laid_variantproxy_qvalue_weights)], narrowed := true }
def ClassDecidesUptoSaid : Prop := classDecidesUptoRow.holds Tryz.pinned (OpenSpec.upto classDecidesSpec)

/-- 'variantproxylaw18.ClassLines', WHERE WHAT IT READS IS OF BULK AT MOST 1048576: true; the input reads as it did. -/
def classLinesUptoRow : OpenClaim := { program := "ytklfpkaemnhdhaagreatdoor", sum := "168173844f0723aea1e9285e4a5a3f20ad91406a2d2b0653581a49a2898e2cad", func := "variantproxy/variantproxylaw18.ClassLines", spec := "classLines", inPlace := ["internal/abi.NoEscape", "internal/bytealg.IndexByteString", "internal/bytealg.IndexString", "internal/bytealg.CountString", "slices.overlaps[variantproxy/rank.level]", "internal/bytealg.MakeNoZero"], unfollowed := true, recurses := true, named := ["internal/bytealg.MaxLen", "variantproxy/qvalue.weights"], plainKeys := false, apart := false, laid := [("variantproxy/qvalue.weights", laid_variantproxy_qvalue_weights)], narrowed := true }
def ClassLinesUptoSaid : Prop := classLinesUptoRow.holds Tryz.pinned (OpenSpec.upto classLinesSpec)

/-- 'variantproxylaw18.ClassCases', WHERE WHAT IT READS IS OF BULK AT MOST 1048576: true; the input reads as it did. -/
def classCasesUptoRow : OpenClaim := { program := "ytklfpkaemnhdhaagreatdoor", sum := "168173844f0723aea1e9285e4a5a3f20ad91406a2d2b0653581a49a2898e2cad", func := "variantproxy/variantproxylaw18.ClassCases", spec := "classCases", inPlace := ["internal/abi.NoEscape", "internal/bytealg.IndexByteString", "internal/bytealg.IndexString", "internal/bytealg.CountString", "slices.overlaps[variantproxy/rank.level]", "internal/bytealg.MakeNoZero"], unfollowed := true, recurses := true, named := ["internal/bytealg.MaxLen", "variantproxy/qvalue.weights"], plainKeys := false, apart := false, laid := [("variantproxy/qvalue.weights", laid_variantproxy_qvalue_weights)], narrowed := true }
def ClassCasesUptoSaid : Prop := classCasesUptoRow.holds Tryz.pinned (OpenSpec.upto classCasesSpec)

/-- 'variantproxylaw18.ClassUnavailable', WHERE WHAT IT READS IS OF BULK AT MOST 1048576: true; the input reads as it did. -/
def classUnavailableUptoRow : OpenClaim := { program := "ytklfpkaemnhdhaagreatdoor", sum := "168173844f0723aea1e9285e4a5a3f20ad91406a2d2b0653581a49a2898e2cad", func := "variantproxy/variantproxylaw18.ClassUnavailable", spec := "classUnavailable", inPlace := ["internal/abi.NoEscape", "internal/bytealg.IndexByteString", "internal/bytealg.IndexString", "internal/bytealg.CountString", "slices.overlaps[variantproxy/rank.level]", "internal/bytealg.MakeNoZero"], unfollowed := true, recurses := true, named := ["internal/bytealg.MaxLen", "variantproxy/qvalue.weights"], plainKeys := false, apart := false, laid := [("variantproxy/qvalue.weights", laid_variantproxy_qvalue_weights)], narrowed := true }
def ClassUnavailableUptoSaid : Prop := classUnavailableUptoRow.holds Tryz.pinned (OpenSpec.upto classUnavailableSpec)

/-- 'variantproxylaw18.ClassNormal', WHERE WHAT IT READS IS OF BULK AT MOST 1048576: true; the input reads as it did. -/
def classNormalUptoRow : OpenClaim := { program := "ytklfpkaemnhdhaagreatdoor", sum := "168173844f0723aea1e9285e4a5a3f20ad91406a2d2b0653581a49a2898e2cad", func := "variantproxy/variantproxylaw18.ClassNormal", spec := "classNormal", inPlace := ["internal/bytealg.IndexByteString", "internal/bytealg.IndexString", "internal/abi.NoEscape", "internal/bytealg.CountString", "internal/bytealg.MakeNoZero", "slices.overlaps[variantproxy/rank.level]"], unfollowed := true, recurses := true, named := ["internal/bytealg.MaxLen", "variantproxy/qvalue.weights"], plainKeys := false, apart := false, laid := [("variantproxy/qvalue.weights", laid_variantproxy_qvalue_weights)], narrowed := true }
def ClassNormalUptoSaid : Prop := classNormalUptoRow.holds Tryz.pinned (OpenSpec.upto classNormalSpec)

end Rows
end Go.Proofs.YtklfpkaemnhdhaaGreatDoor
