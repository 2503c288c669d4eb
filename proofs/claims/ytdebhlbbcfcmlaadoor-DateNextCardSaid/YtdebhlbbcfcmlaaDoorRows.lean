/-
  NARROWER THAN 'FOR EVERY INPUT', by the rows' own cells (each row's printed sentence says how): DateParses: laid · DateFormats: laid · DateDays: laid · DateBack: laid · DateNext: laid · DateWeeks: laid.
  DERIVED. THE GIVEN ROWS OF THIS SEAT. 6 by the template 'for every input the law returns true; each argument reads behind the call as it read before'; 0 by the template 'total and deterministic' (their statements: YtdebhlbbcfcmlaaDoorTotals.lean).
  GIVEN WITH THE SEED: the statements are not yours to turn. If you find one false, say at which input.
  Laid BY PROGRAM, IN A SANDBOX (cutbox-rows.mjs): the forced cells as the released guide's own fill.sh prints them over the translation d377fc656ba6b1ec… (all of the seat's roots in one cut). By AI agents, Wed Nov 11 2026. No macro, syntax, notation, axiom, sorry.
-/
import Derived.Test.YtdebhlbbcfcmlaaDoorChecked
import GoSem.Claim
import GoSem.ClaimJoined
import GoSem.ClaimMapViews
import Derived.JoinedTies
import Derived.KernelRfl
namespace Go.Proofs.YtdebhlbbcfcmlaaDoor
/- THE CELL 'sum', in the pinned program and in every row, IS THE sha256 OF THE DUMP (.gsa) THAT YtdebhlbbcfcmlaaDoorProg.lean LOADS. Nothing in Lean hashes anything: it is a label: what it is worth is what the hold of that sum in a sandbox is worth. -/
noncomputable def Tryd.pinned : Pinned := { name := "ytdebhlbbcfcmlaadoor", sum := "d377fc656ba6b1ec12b1d1f1300a85bcf5d24a1feb322724771b2eafb08f89d0", checked := Tryd.checked }
namespace Rows
def none {H : Type} : Left H := { results := [], args := [] }

/- WHAT THE LISTED PACKAGE-LEVEL VARIABLES READ AS WHEN THE CALL BEGINS. Each datum BY PROGRAM (the guide's laid-datum.mjs) off the statement by which the dump's own 'gosem.cut.vars' lays the variable. In a bare row this is a premise. The card (YtdebhlbbcfcmlaaDoorCards.lean) ties it to the program's text. -/
def laid_variantproxy_date_weekdays {H : Type} : DataW H := .agg [.lit (.string [84, 104, 117]), .lit (.string [70, 114, 105]), .lit (.string [83, 97, 116]), .lit (.string [83, 117, 110]), .lit (.string [77, 111, 110]), .lit (.string [84, 117, 101]), .lit (.string [87, 101, 100])]
def laid_variantproxy_date_months {H : Type} : DataW H := .agg [.lit (.string [74, 97, 110]), .lit (.string [70, 101, 98]), .lit (.string [77, 97, 114]), .lit (.string [65, 112, 114]), .lit (.string [77, 97, 121]), .lit (.string [74, 117, 110]), .lit (.string [74, 117, 108]), .lit (.string [65, 117, 103]), .lit (.string [83, 101, 112]), .lit (.string [79, 99, 116]), .lit (.string [78, 111, 118]), .lit (.string [68, 101, 99])]
def laid_variantproxy_date_monthLengths {H : Type} : DataW H := .agg [.lit (.int .i64 31), .lit (.int .i64 28), .lit (.int .i64 31), .lit (.int .i64 30), .lit (.int .i64 31), .lit (.int .i64 30), .lit (.int .i64 31), .lit (.int .i64 31), .lit (.int .i64 30), .lit (.int .i64 31), .lit (.int .i64 30), .lit (.int .i64 31)]

/-- 'variantproxylaw20.DateParses': WHATEVER THE INPUT: true; the input reads as it did. -/
def dateParsesSpec : ChangeSpec := { name := "dateParses", fn := fun _ => fun
  | [d] => { results := [.lit (.bool true)], args := [d] }
  | _ => none }
def dateParsesRow : OpenClaim := { program := "ytdebhlbbcfcmlaadoor", sum := "d377fc656ba6b1ec12b1d1f1300a85bcf5d24a1feb322724771b2eafb08f89d0", func := "variantproxy/variantproxylaw20.DateParses", spec := "dateParses", named := ["variantproxy/date.months", "variantproxy/date.monthLengths", "variantproxy/date.weekdays"], apart := false, laid := [("variantproxy/date.weekdays", laid_variantproxy_date_weekdays), ("variantproxy/date.months", laid_variantproxy_date_months), ("variantproxy/date.monthLengths", laid_variantproxy_date_monthLengths)] }
def DateParsesSaid : Prop := dateParsesRow.holds Tryd.pinned (OpenSpec.ofChange dateParsesSpec)

/-- ITS FALSE NEIGHBOUR: 'it returns false'. Refute it at one input. -/
def dateParsesWrong : ChangeSpec := { name := "dateParses", fn := fun _ => fun
  | [d] => { results := [.lit (.bool false)], args := [d] }
  | _ => none }
def DateParsesWrongFalsely : Prop := dateParsesRow.holds Tryd.pinned (OpenSpec.ofChange dateParsesWrong)

/-- 'variantproxylaw20.DateFormats': WHATEVER THE INPUT: true; the input reads as it did. -/
def dateFormatsSpec : ChangeSpec := { name := "dateFormats", fn := fun _ => fun
  | [d] => { results := [.lit (.bool true)], args := [d] }
  | _ => none }
def dateFormatsRow : OpenClaim := { program := "ytdebhlbbcfcmlaadoor", sum := "d377fc656ba6b1ec12b1d1f1300a85bcf5d24a1feb322724771b2eafb08f89d0", func := "variantproxy/variantproxylaw20.DateFormats", spec := "dateFormats", named := ["variantproxy/date.weekdays", "variantproxy/date.months", "variantproxy/date.monthLengths"], apart := false, laid := [("variantproxy/date.weekdays", laid_variantproxy_date_weekdays), ("variantproxy/date.months", laid_variantproxy_date_months), ("variantproxy/date.monthLengths", laid_variantproxy_date_monthLengths)] }
def DateFormatsSaid : Prop := dateFormatsRow.holds Tryd.pinned (OpenSpec.ofChange dateFormatsSpec)

/-- ITS FALSE NEIGHBOUR: 'it returns false'. Refute it at one input. -/
def dateFormatsWrong : ChangeSpec := { name := "dateFormats", fn := fun _ => fun
  | [d] => { results := [.lit (.bool false)], args := [d] }
  | _ => none }
def DateFormatsWrongFalsely : Prop := dateFormatsRow.holds Tryd.pinned (OpenSpec.ofChange dateFormatsWrong)

/-- 'variantproxylaw20.DateDays': WHATEVER THE INPUT: true; the input reads as it did. -/
def dateDaysSpec : ChangeSpec := { name := "dateDays", fn := fun _ => fun
  | [d1, d2, d3] => { results := [.lit (.bool true)], args := [d1, d2, d3] }
  | _ => none }
def dateDaysRow : OpenClaim := { program := "ytdebhlbbcfcmlaadoor", sum := "d377fc656ba6b1ec12b1d1f1300a85bcf5d24a1feb322724771b2eafb08f89d0", func := "variantproxy/variantproxylaw20.DateDays", spec := "dateDays", named := ["variantproxy/date.monthLengths", "variantproxy/date.months", "variantproxy/date.weekdays"], apart := false, laid := [("variantproxy/date.weekdays", laid_variantproxy_date_weekdays), ("variantproxy/date.months", laid_variantproxy_date_months), ("variantproxy/date.monthLengths", laid_variantproxy_date_monthLengths)] }
def DateDaysSaid : Prop := dateDaysRow.holds Tryd.pinned (OpenSpec.ofChange dateDaysSpec)

/-- ITS FALSE NEIGHBOUR: 'it returns false'. Refute it at one input. -/
def dateDaysWrong : ChangeSpec := { name := "dateDays", fn := fun _ => fun
  | [d1, d2, d3] => { results := [.lit (.bool false)], args := [d1, d2, d3] }
  | _ => none }
def DateDaysWrongFalsely : Prop := dateDaysRow.holds Tryd.pinned (OpenSpec.ofChange dateDaysWrong)

/-- 'variantproxylaw20.DateBack': WHATEVER THE INPUT: true; the input reads as it did. -/
def dateBackSpec : ChangeSpec := { name := "dateBack", fn := fun _ => fun
  | [d] => { results := [.lit (.bool true)], args := [d] }
  | _ => none }
def dateBackRow : OpenClaim := { program := "ytdebhlbbcfcmlaadoor", sum := "d377fc656ba6b1ec12b1d1f1300a85bcf5d24a1feb322724771b2eafb08f89d0", func := "variantproxy/variantproxylaw20.DateBack", spec := "dateBack", named := ["variantproxy/date.weekdays", "variantproxy/date.months", "variantproxy/date.monthLengths"], apart := false, laid := [("variantproxy/date.weekdays", laid_variantproxy_date_weekdays), ("variantproxy/date.months", laid_variantproxy_date_months), ("variantproxy/date.monthLengths", laid_variantproxy_date_monthLengths)] }
def DateBackSaid : Prop := dateBackRow.holds Tryd.pinned (OpenSpec.ofChange dateBackSpec)

/-- ITS FALSE NEIGHBOUR: 'it returns false'. Refute it at one input. -/
def dateBackWrong : ChangeSpec := { name := "dateBack", fn := fun _ => fun
  | [d] => { results := [.lit (.bool false)], args := [d] }
  | _ => none }
def DateBackWrongFalsely : Prop := dateBackRow.holds Tryd.pinned (OpenSpec.ofChange dateBackWrong)

/-- 'variantproxylaw20.DateNext': WHATEVER THE INPUT: true; the input reads as it did. -/
def dateNextSpec : ChangeSpec := { name := "dateNext", fn := fun _ => fun
  | [d1, d2, d3] => { results := [.lit (.bool true)], args := [d1, d2, d3] }
  | _ => none }
def dateNextRow : OpenClaim := { program := "ytdebhlbbcfcmlaadoor", sum := "d377fc656ba6b1ec12b1d1f1300a85bcf5d24a1feb322724771b2eafb08f89d0", func := "variantproxy/variantproxylaw20.DateNext", spec := "dateNext", named := ["variantproxy/date.monthLengths", "variantproxy/date.months", "variantproxy/date.weekdays"], apart := false, laid := [("variantproxy/date.weekdays", laid_variantproxy_date_weekdays), ("variantproxy/date.months", laid_variantproxy_date_months), ("variantproxy/date.monthLengths", laid_variantproxy_date_monthLengths)] }
def DateNextSaid : Prop := dateNextRow.holds Tryd.pinned (OpenSpec.ofChange dateNextSpec)

/-- ITS FALSE NEIGHBOUR: 'it returns false'. Refute it at one input. -/
def dateNextWrong : ChangeSpec := { name := "dateNext", fn := fun _ => fun
  | [d1, d2, d3] => { results := [.lit (.bool false)], args := [d1, d2, d3] }
  | _ => none }
def DateNextWrongFalsely : Prop := dateNextRow.holds Tryd.pinned (OpenSpec.ofChange dateNextWrong)

/-- 'variantproxylaw20.DateWeeks': WHATEVER THE INPUT: true; the input reads as it did. -/
def dateWeeksSpec : ChangeSpec := { name := "dateWeeks", fn := fun _ => fun
  | [d] => { results := [.lit (.bool true)], args := [d] }
  | _ => none }
def dateWeeksRow : OpenClaim := { program := "ytdebhlbbcfcmlaadoor", sum := "d377fc656ba6b1ec12b1d1f1300a85bcf5d24a1feb322724771b2eafb08f89d0", func := "variantproxy/variantproxylaw20.DateWeeks", spec := "dateWeeks", named := ["variantproxy/date.weekdays", "variantproxy/date.months", "variantproxy/date.monthLengths"], apart := false, laid := [("variantproxy/date.weekdays", laid_variantproxy_date_weekdays), ("variantproxy/date.months", laid_variantproxy_date_months), ("variantproxy/date.monthLengths", laid_variantproxy_date_monthLengths)] }
def DateWeeksSaid : Prop := dateWeeksRow.holds Tryd.pinned (OpenSpec.ofChange dateWeeksSpec)

/-- ITS FALSE NEIGHBOUR: 'it returns false'. Refute it at one input. -/
def dateWeeksWrong : ChangeSpec := { name := "dateWeeks", fn := fun _ => fun
  | [d] => { results := [.lit (.bool false)], args := [d] }
  | _ => none }
def DateWeeksWrongFalsely : Prop := dateWeeksRow.holds Tryd.pinned (OpenSpec.ofChange dateWeeksWrong)

/- THE SECOND FORM. 'bulk': how many values and letters a reading holds, each counted each time it is reached (what is shared counts as often as it is met; a slice's spare places count too). A statement '..UptoSaid' is the law's where the arguments, and the package variables that the reading takes, are together of bulk at most 1048576: NARROWER than '..Said'. Prove '..Said' where nothing that the law and all that it calls make is longer than what came in: it says more and counts as full. Else prove '..UptoSaid'. A law counts once. -/
mutual
def uptoBulk {H : Type} : DataW H → Nat
  | .lit (.string bytes) => bytes.length + 1
  | .lit _ => 1
  | .nil => 1
  | .ptr d => uptoBulk d + 1
  | .slice elems spare => uptoBulkAll elems + uptoBulkAll spare + 1
  | .agg parts => uptoBulkAll parts + 1
  | .iface _ d => uptoBulk d + 1
  | .map entries => uptoBulkEntries entries + 1
  | .held _ => 1
def uptoBulkAll {H : Type} : List (DataW H) → Nat
  | [] => 0
  | d :: r => uptoBulk d + uptoBulkAll r
def uptoBulkEntries {H : Type} : List (Lit × DataW H) → Nat
  | [] => 0
  | x :: r => uptoBulkEntry x + uptoBulkEntries r
def uptoBulkEntry {H : Type} : Lit × DataW H → Nat
  | (.string bytes, d) => bytes.length + uptoBulk d + 1
  | (_, d) => uptoBulk d + 1
 end
def uptoSmall : (H : Type) → List (DataW H) → Bool := fun _ ds => decide (uptoBulkAll ds ≤ 1048576)
def OpenSpec.upto (s : _root_.Go.ChangeSpec) : _root_.Go.OpenSpec := { _root_.Go.OpenSpec.ofChange s with cond := some uptoSmall }

/-- 'variantproxylaw20.DateParses', WHERE WHAT IT READS IS OF BULK AT MOST 1048576: true; the input reads as it did. -/
def dateParsesUptoRow : OpenClaim := { program := "ytdebhlbbcfcmlaadoor", sum := "d377fc656ba6b1ec12b1d1f1300a85bcf5d24a1feb322724771b2eafb08f89d0", func := "variantproxy/variantproxylaw20.DateParses", spec := "dateParses", named := ["variantproxy/date.months", "variantproxy/date.monthLengths", "variantproxy/date.weekdays"], apart := false, laid := [("variantproxy/date.weekdays", laid_variantproxy_date_weekdays), ("variantproxy/date.months", laid_variantproxy_date_months), ("variantproxy/date.monthLengths", laid_variantproxy_date_monthLengths)], narrowed := true }
def DateParsesUptoSaid : Prop := dateParsesUptoRow.holds Tryd.pinned (OpenSpec.upto dateParsesSpec)

/-- 'variantproxylaw20.DateFormats', WHERE WHAT IT READS IS OF BULK AT MOST 1048576: true; the input reads as it did. -/
def dateFormatsUptoRow : OpenClaim := { program := "ytdebhlbbcfcmlaadoor", sum := "d377fc656ba6b1ec12b1d1f1300a85bcf5d24a1feb322724771b2eafb08f89d0", func := "variantproxy/variantproxylaw20.DateFormats", spec := "dateFormats", named := ["variantproxy/date.weekdays", "variantproxy/date.months", "variantproxy/date.monthLengths"], apart := false, laid := [("variantproxy/date.weekdays", laid_variantproxy_date_weekdays), ("variantproxy/date.months", laid_variantproxy_date_months), ("variantproxy/date.monthLengths", laid_variantproxy_date_monthLengths)], narrowed := true }
def DateFormatsUptoSaid : Prop := dateFormatsUptoRow.holds Tryd.pinned (OpenSpec.upto dateFormatsSpec)

/-- 'variantproxylaw20.DateDays', WHERE WHAT IT READS IS OF BULK AT MOST 1048576: true; the input reads as it did. -/
def dateDaysUptoRow : OpenClaim := { program := "ytdebhlbbcfcmlaadoor", sum := "d377fc656ba6b1ec12b1d1f1300a85bcf5d24a1feb322724771b2eafb08f89d0", func := "variantproxy/variantproxylaw20.DateDays", spec := "dateDays", named := ["variantproxy/date.monthLengths", "variantproxy/date.months", "variantproxy/date.weekdays"], apart := false, laid := [("variantproxy/date.weekdays", laid_variantproxy_date_weekdays), ("variantproxy/date.months", laid_variantproxy_date_months), ("variantproxy/date.monthLengths", laid_variantproxy_date_monthLengths)], narrowed := true }
def DateDaysUptoSaid : Prop := dateDaysUptoRow.holds Tryd.pinned (OpenSpec.upto dateDaysSpec)

/-- 'variantproxylaw20.DateBack', WHERE WHAT IT READS IS OF BULK AT MOST 1048576: true; the input reads as it did. -/
def dateBackUptoRow : OpenClaim := { program := "ytdebhlbbcfcmlaadoor", sum := "d377fc656ba6b1ec12b1d1f1300a85bcf5d24a1feb322724771b2eafb08f89d0", func := "variantproxy/variantproxylaw20.DateBack", spec := "dateBack", named := ["variantproxy/date.weekdays", "variantproxy/date.months", "variantproxy/date.monthLengths"], apart := false, laid := [("variantproxy/date.weekdays", laid_variantproxy_date_weekdays), ("variantproxy/date.months", laid_variantproxy_date_months), ("variantproxy/date.monthLengths", laid_variantproxy_date_monthLengths)], narrowed := true }
def DateBackUptoSaid : Prop := dateBackUptoRow.holds Tryd.pinned (OpenSpec.upto dateBackSpec)

/-- 'variantproxylaw20.DateNext', WHERE WHAT IT READS IS OF BULK AT MOST 1048576: true; the input reads as it did. -/
def dateNextUptoRow : OpenClaim := { program := "ytdebhlbbcfcmlaadoor", sum := "d377fc656ba6b1ec12b1d1f1300a85bcf5d24a1feb322724771b2eafb08f89d0", func := "variantproxy/variantproxylaw20.DateNext", spec := "dateNext", named := ["variantproxy/date.monthLengths", "variantproxy/date.months", "variantproxy/date.weekdays"], apart := false, laid := [("variantproxy/date.weekdays", laid_variantproxy_date_weekdays), ("variantproxy/date.months", laid_variantproxy_date_months), ("variantproxy/date.monthLengths", laid_variantproxy_date_monthLengths)], narrowed := true }
def DateNextUptoSaid : Prop := dateNextUptoRow.holds Tryd.pinned (OpenSpec.upto dateNextSpec)

/-- 'variantproxylaw20.DateWeeks', WHERE WHAT IT READS IS OF BULK AT MOST 1048576: true; the input reads as it did. -/
def dateWeeksUptoRow : OpenClaim := { program := "ytdebhlbbcfcmlaadoor", sum := "d377fc656ba6b1ec12b1d1f1300a85bcf5d24a1feb322724771b2eafb08f89d0", func := "variantproxy/variantproxylaw20.DateWeeks", spec := "dateWeeks", named := ["variantproxy/date.weekdays", "variantproxy/date.months", "variantproxy/date.monthLengths"], apart := false, laid := [("variantproxy/date.weekdays", laid_variantproxy_date_weekdays), ("variantproxy/date.months", laid_variantproxy_date_months), ("variantproxy/date.monthLengths", laid_variantproxy_date_monthLengths)], narrowed := true }
def DateWeeksUptoSaid : Prop := dateWeeksUptoRow.holds Tryd.pinned (OpenSpec.upto dateWeeksSpec)

end Rows
end Go.Proofs.YtdebhlbbcfcmlaaDoor
