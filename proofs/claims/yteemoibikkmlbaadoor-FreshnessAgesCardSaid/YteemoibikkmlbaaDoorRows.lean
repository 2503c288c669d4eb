/-
  NARROWER THAN 'FOR EVERY INPUT', by the rows' own cells (each row's printed sentence says how): FreshnessLifetimes: laid · FreshnessAges: laid · FreshnessDecides: laid · FreshnessGrows: laid · FreshnessFalls: laid · FreshnessStrict: laid.
  DERIVED. THE GIVEN ROWS OF THIS SEAT. 6 by the template 'for every input the law returns true; each argument reads behind the call as it read before'; 0 by the template 'total and deterministic' (their statements: YteemoibikkmlbaaDoorTotals.lean).
  GIVEN WITH THE SEED: the statements are not yours to turn. If you find one false, say at which input.
  Laid BY PROGRAM, IN A SANDBOX (cutbox-rows.mjs): the forced cells as the released guide's own fill.sh prints them over the translation 248bb4c442e22514… (all of the seat's roots in one cut). By AI agents, Wed Nov 11 2026. No macro, syntax, notation, axiom, sorry.
-/
import Derived.Test.YteemoibikkmlbaaDoorChecked
import GoSem.Claim
import GoSem.ClaimJoined
import GoSem.ClaimMapViews
import Derived.JoinedTies
import Derived.KernelRfl
namespace Go.Proofs.YteemoibikkmlbaaDoor
/- THE CELL 'sum', in the pinned program and in every row, IS THE sha256 OF THE DUMP (.gsa) THAT YteemoibikkmlbaaDoorProg.lean LOADS. Nothing in Lean hashes anything: it is a label: what it is worth is what the hold of that sum in a sandbox is worth. -/
noncomputable def Tryd.pinned : Pinned := { name := "yteemoibikkmlbaadoor", sum := "248bb4c442e22514e1e00e486c927c9d1d8019b6d7083319fa00b8f76b0f5088", checked := Tryd.checked }
namespace Rows
def none {H : Type} : Left H := { results := [], args := [] }

/- WHAT THE LISTED PACKAGE-LEVEL VARIABLES READ AS WHEN THE CALL BEGINS. Each datum BY PROGRAM (the guide's laid-datum.mjs) off the statement by which the dump's own 'gosem.cut.vars' lays the variable. In a bare row this is a premise. The card (YteemoibikkmlbaaDoorCards.lean) ties it to the program's text. -/
def laid_variantproxy_date_weekdays {H : Type} : DataW H := .agg [.lit (.string [84, 104, 117]), .lit (.string [70, 114, 105]), .lit (.string [83, 97, 116]), .lit (.string [83, 117, 110]), .lit (.string [77, 111, 110]), .lit (.string [84, 117, 101]), .lit (.string [87, 101, 100])]
def laid_variantproxy_date_months {H : Type} : DataW H := .agg [.lit (.string [74, 97, 110]), .lit (.string [70, 101, 98]), .lit (.string [77, 97, 114]), .lit (.string [65, 112, 114]), .lit (.string [77, 97, 121]), .lit (.string [74, 117, 110]), .lit (.string [74, 117, 108]), .lit (.string [65, 117, 103]), .lit (.string [83, 101, 112]), .lit (.string [79, 99, 116]), .lit (.string [78, 111, 118]), .lit (.string [68, 101, 99])]
def laid_variantproxy_date_monthLengths {H : Type} : DataW H := .agg [.lit (.int .i64 31), .lit (.int .i64 28), .lit (.int .i64 31), .lit (.int .i64 30), .lit (.int .i64 31), .lit (.int .i64 30), .lit (.int .i64 31), .lit (.int .i64 31), .lit (.int .i64 30), .lit (.int .i64 31), .lit (.int .i64 30), .lit (.int .i64 31)]

/-- 'variantproxylaw23.FreshnessLifetimes': WHATEVER THE INPUT: true; the input reads as it did. -/
def freshnessLifetimesSpec : ChangeSpec := { name := "freshnessLifetimes", fn := fun _ => fun
  | [d1, d2] => { results := [.lit (.bool true)], args := [d1, d2] }
  | _ => none }
def freshnessLifetimesRow : OpenClaim := { program := "yteemoibikkmlbaadoor", sum := "248bb4c442e22514e1e00e486c927c9d1d8019b6d7083319fa00b8f76b0f5088", func := "variantproxy/variantproxylaw23.FreshnessLifetimes", spec := "freshnessLifetimes", unfollowed := true, recurses := true, named := ["variantproxy/date.months", "variantproxy/date.monthLengths", "variantproxy/date.weekdays"], apart := false, laid := [("variantproxy/date.weekdays", laid_variantproxy_date_weekdays), ("variantproxy/date.months", laid_variantproxy_date_months), ("variantproxy/date.monthLengths", laid_variantproxy_date_monthLengths)] }
def FreshnessLifetimesSaid : Prop := freshnessLifetimesRow.holds Tryd.pinned (OpenSpec.ofChange freshnessLifetimesSpec)

/-- ITS FALSE NEIGHBOUR: 'it returns false'. Refute it at one input. -/
def freshnessLifetimesWrong : ChangeSpec := { name := "freshnessLifetimes", fn := fun _ => fun
  | [d1, d2] => { results := [.lit (.bool false)], args := [d1, d2] }
  | _ => none }
def FreshnessLifetimesWrongFalsely : Prop := freshnessLifetimesRow.holds Tryd.pinned (OpenSpec.ofChange freshnessLifetimesWrong)

/-- 'variantproxylaw23.FreshnessAges': WHATEVER THE INPUT: true; the input reads as it did. -/
def freshnessAgesSpec : ChangeSpec := { name := "freshnessAges", fn := fun _ => fun
  | [d1, d2, d3, d4] => { results := [.lit (.bool true)], args := [d1, d2, d3, d4] }
  | _ => none }
def freshnessAgesRow : OpenClaim := { program := "yteemoibikkmlbaadoor", sum := "248bb4c442e22514e1e00e486c927c9d1d8019b6d7083319fa00b8f76b0f5088", func := "variantproxy/variantproxylaw23.FreshnessAges", spec := "freshnessAges", unfollowed := true, recurses := true, named := ["variantproxy/date.months", "variantproxy/date.monthLengths", "variantproxy/date.weekdays"], apart := false, laid := [("variantproxy/date.weekdays", laid_variantproxy_date_weekdays), ("variantproxy/date.months", laid_variantproxy_date_months), ("variantproxy/date.monthLengths", laid_variantproxy_date_monthLengths)] }
def FreshnessAgesSaid : Prop := freshnessAgesRow.holds Tryd.pinned (OpenSpec.ofChange freshnessAgesSpec)

/-- ITS FALSE NEIGHBOUR: 'it returns false'. Refute it at one input. -/
def freshnessAgesWrong : ChangeSpec := { name := "freshnessAges", fn := fun _ => fun
  | [d1, d2, d3, d4] => { results := [.lit (.bool false)], args := [d1, d2, d3, d4] }
  | _ => none }
def FreshnessAgesWrongFalsely : Prop := freshnessAgesRow.holds Tryd.pinned (OpenSpec.ofChange freshnessAgesWrong)

/-- 'variantproxylaw23.FreshnessDecides': WHATEVER THE INPUT: true; the input reads as it did. -/
def freshnessDecidesSpec : ChangeSpec := { name := "freshnessDecides", fn := fun _ => fun
  | [d1, d2, d3, d4] => { results := [.lit (.bool true)], args := [d1, d2, d3, d4] }
  | _ => none }
def freshnessDecidesRow : OpenClaim := { program := "yteemoibikkmlbaadoor", sum := "248bb4c442e22514e1e00e486c927c9d1d8019b6d7083319fa00b8f76b0f5088", func := "variantproxy/variantproxylaw23.FreshnessDecides", spec := "freshnessDecides", unfollowed := true, recurses := true, named := ["variantproxy/date.months", "variantproxy/date.monthLengths", "variantproxy/date.weekdays"], apart := false, laid := [("variantproxy/date.weekdays", laid_variantproxy_date_weekdays), ("variantproxy/date.months", laid_variantproxy_date_months), ("variantproxy/date.monthLengths", laid_variantproxy_date_monthLengths)] }
def FreshnessDecidesSaid : Prop := freshnessDecidesRow.holds Tryd.pinned (OpenSpec.ofChange freshnessDecidesSpec)

/-- ITS FALSE NEIGHBOUR: 'it returns false'. Refute it at one input. -/
def freshnessDecidesWrong : ChangeSpec := { name := "freshnessDecides", fn := fun _ => fun
  | [d1, d2, d3, d4] => { results := [.lit (.bool false)], args := [d1, d2, d3, d4] }
  | _ => none }
def FreshnessDecidesWrongFalsely : Prop := freshnessDecidesRow.holds Tryd.pinned (OpenSpec.ofChange freshnessDecidesWrong)

/-- 'variantproxylaw23.FreshnessGrows': WHATEVER THE INPUT: true; the input reads as it did. -/
def freshnessGrowsSpec : ChangeSpec := { name := "freshnessGrows", fn := fun _ => fun
  | [d1, d2, d3, d4, d5] => { results := [.lit (.bool true)], args := [d1, d2, d3, d4, d5] }
  | _ => none }
def freshnessGrowsRow : OpenClaim := { program := "yteemoibikkmlbaadoor", sum := "248bb4c442e22514e1e00e486c927c9d1d8019b6d7083319fa00b8f76b0f5088", func := "variantproxy/variantproxylaw23.FreshnessGrows", spec := "freshnessGrows", unfollowed := true, recurses := true, named := ["variantproxy/date.months", "variantproxy/date.monthLengths", "variantproxy/date.weekdays"], apart := false, laid := [("variantproxy/date.weekdays", laid_variantproxy_date_weekdays), ("variantproxy/date.months", laid_variantproxy_date_months), ("variantproxy/date.monthLengths", laid_variantproxy_date_monthLengths)] }
def FreshnessGrowsSaid : Prop := freshnessGrowsRow.holds Tryd.pinned (OpenSpec.ofChange freshnessGrowsSpec)

/-- ITS FALSE NEIGHBOUR: 'it returns false'. Refute it at one input. -/
def freshnessGrowsWrong : ChangeSpec := { name := "freshnessGrows", fn := fun _ => fun
  | [d1, d2, d3, d4, d5] => { results := [.lit (.bool false)], args := [d1, d2, d3, d4, d5] }
  | _ => none }
def FreshnessGrowsWrongFalsely : Prop := freshnessGrowsRow.holds Tryd.pinned (OpenSpec.ofChange freshnessGrowsWrong)

/-- 'variantproxylaw23.FreshnessFalls': WHATEVER THE INPUT: true; the input reads as it did. -/
def freshnessFallsSpec : ChangeSpec := { name := "freshnessFalls", fn := fun _ => fun
  | [d1, d2, d3, d4, d5] => { results := [.lit (.bool true)], args := [d1, d2, d3, d4, d5] }
  | _ => none }
def freshnessFallsRow : OpenClaim := { program := "yteemoibikkmlbaadoor", sum := "248bb4c442e22514e1e00e486c927c9d1d8019b6d7083319fa00b8f76b0f5088", func := "variantproxy/variantproxylaw23.FreshnessFalls", spec := "freshnessFalls", unfollowed := true, recurses := true, named := ["variantproxy/date.months", "variantproxy/date.monthLengths", "variantproxy/date.weekdays"], apart := false, laid := [("variantproxy/date.weekdays", laid_variantproxy_date_weekdays), ("variantproxy/date.months", laid_variantproxy_date_months), ("variantproxy/date.monthLengths", laid_variantproxy_date_monthLengths)] }
def FreshnessFallsSaid : Prop := freshnessFallsRow.holds Tryd.pinned (OpenSpec.ofChange freshnessFallsSpec)

/-- ITS FALSE NEIGHBOUR: 'it returns false'. Refute it at one input. -/
def freshnessFallsWrong : ChangeSpec := { name := "freshnessFalls", fn := fun _ => fun
  | [d1, d2, d3, d4, d5] => { results := [.lit (.bool false)], args := [d1, d2, d3, d4, d5] }
  | _ => none }
def FreshnessFallsWrongFalsely : Prop := freshnessFallsRow.holds Tryd.pinned (OpenSpec.ofChange freshnessFallsWrong)

/-- 'variantproxylaw23.FreshnessStrict': WHATEVER THE INPUT: true; the input reads as it did. -/
def freshnessStrictSpec : ChangeSpec := { name := "freshnessStrict", fn := fun _ => fun
  | [d1, d2, d3, d4] => { results := [.lit (.bool true)], args := [d1, d2, d3, d4] }
  | _ => none }
def freshnessStrictRow : OpenClaim := { program := "yteemoibikkmlbaadoor", sum := "248bb4c442e22514e1e00e486c927c9d1d8019b6d7083319fa00b8f76b0f5088", func := "variantproxy/variantproxylaw23.FreshnessStrict", spec := "freshnessStrict", unfollowed := true, recurses := true, named := ["variantproxy/date.months", "variantproxy/date.monthLengths", "variantproxy/date.weekdays"], apart := false, laid := [("variantproxy/date.weekdays", laid_variantproxy_date_weekdays), ("variantproxy/date.months", laid_variantproxy_date_months), ("variantproxy/date.monthLengths", laid_variantproxy_date_monthLengths)] }
def FreshnessStrictSaid : Prop := freshnessStrictRow.holds Tryd.pinned (OpenSpec.ofChange freshnessStrictSpec)

/-- ITS FALSE NEIGHBOUR: 'it returns false'. Refute it at one input. -/
def freshnessStrictWrong : ChangeSpec := { name := "freshnessStrict", fn := fun _ => fun
  | [d1, d2, d3, d4] => { results := [.lit (.bool false)], args := [d1, d2, d3, d4] }
  | _ => none }
def FreshnessStrictWrongFalsely : Prop := freshnessStrictRow.holds Tryd.pinned (OpenSpec.ofChange freshnessStrictWrong)

/- THE SECOND FORM. 'bulk': how many values and letters a reading holds, each counted each time it is reached (what is shared counts as often as it is met; a slice's spare places count too). A statement '..UptoSaid' is the law's where the arguments, and the package variables that the reading takes, are together of bulk at most 1048576: NARROWER than '..Said'. Prove '..Said' where nothing that the law and all that it calls make is longer than what came in: it says more and counts as full. Else prove '..UptoSaid'. A law counts once. -/
mutual
def uptoBulk {H : Type} : DataW H → Nat
  | .lit (.string bytes) => bytes.length + 1
  | .lit _ => 1
  | .nil => 1
  | .ptr d => uptoBulk d + 1
  | .slice elems spare => uptoBulkAll elems + uptoBulkAll spare + 1
  | .agg parts => uptoBulkAll parts + 1
  | .iface _ d => uptoBulk d + 1
  | .map entries => uptoBulkEntries entries + 1
  | .held _ => 1
def uptoBulkAll {H : Type} : List (DataW H) → Nat
  | [] => 0
  | d :: r => uptoBulk d + uptoBulkAll r
def uptoBulkEntries {H : Type} : List (Lit × DataW H) → Nat
  | [] => 0
  | x :: r => uptoBulkEntry x + uptoBulkEntries r
def uptoBulkEntry {H : Type} : Lit × DataW H → Nat
  | (.string bytes, d) => bytes.length + uptoBulk d + 1
  | (_, d) => uptoBulk d + 1
 end
def uptoSmall : (H : Type) → List (DataW H) → Bool := fun _ ds => decide (uptoBulkAll ds ≤ 1048576)
def OpenSpec.upto (s : _root_.Go.ChangeSpec) : _root_.Go.OpenSpec := { _root_.Go.OpenSpec.ofChange s with cond := some uptoSmall }

/-- 'variantproxylaw23.FreshnessLifetimes', WHERE WHAT IT READS IS OF BULK AT MOST 1048576: true; the input reads as it did. -/
def freshnessLifetimesUptoRow : OpenClaim := { program := "yteemoibikkmlbaadoor", sum := "248bb4c442e22514e1e00e486c927c9d1d8019b6d7083319fa00b8f76b0f5088", func := "variantproxy/variantproxylaw23.FreshnessLifetimes", spec := "freshnessLifetimes", unfollowed := true, recurses := true, named := ["variantproxy/date.months", "variantproxy/date.monthLengths", "variantproxy/date.weekdays"], apart := false, laid := [("variantproxy/date.weekdays", laid_variantproxy_date_weekdays), ("variantproxy/date.months", laid_variantproxy_date_months), ("variantproxy/date.monthLengths", laid_variantproxy_date_monthLengths)], narrowed := true }
def FreshnessLifetimesUptoSaid : Prop := freshnessLifetimesUptoRow.holds Tryd.pinned (OpenSpec.upto freshnessLifetimesSpec)

/-- 'variantproxylaw23.FreshnessAges', WHERE WHAT IT READS IS OF BULK AT MOST 1048576: true; the input reads as it did. -/
def freshnessAgesUptoRow : OpenClaim := { program := "yteemoibikkmlbaadoor", sum := "248bb4c442e22514e1e00e486c927c9d1d8019b6d7083319fa00b8f76b0f5088", func := "variantproxy/variantproxylaw23.FreshnessAges", spec := "freshnessAges", unfollowed := true, recurses := true, named := ["variantproxy/date.months", "variantproxy/date.monthLengths", "variantproxy/date.weekdays"], apart := false, laid := [("variantproxy/date.weekdays", laid_variantproxy_date_weekdays), ("variantproxy/date.months", laid_variantproxy_date_months), ("variantproxy/date.monthLengths", laid_variantproxy_date_monthLengths)], narrowed := true }
def FreshnessAgesUptoSaid : Prop := freshnessAgesUptoRow.holds Tryd.pinned (OpenSpec.upto freshnessAgesSpec)

/-- 'variantproxylaw23.FreshnessDecides', WHERE WHAT IT READS IS OF BULK AT MOST 1048576: true; the input reads as it did. -/
def freshnessDecidesUptoRow : OpenClaim := { program := "yteemoibikkmlbaadoor", sum := "248bb4c442e22514e1e00e486c927c9d1d8019b6d7083319fa00b8f76b0f5088", func := "variantproxy/variantproxylaw23.FreshnessDecides", spec := "freshnessDecides", unfollowed := true, recurses := true, named := ["variantproxy/date.months", "variantproxy/date.monthLengths", "variantproxy/date.weekdays"], apart := false, laid := [("variantproxy/date.weekdays", laid_variantproxy_date_weekdays), ("variantproxy/date.months", laid_variantproxy_date_months), ("variantproxy/date.monthLengths", laid_variantproxy_date_monthLengths)], narrowed := true }
def FreshnessDecidesUptoSaid : Prop := freshnessDecidesUptoRow.holds Tryd.pinned (OpenSpec.upto freshnessDecidesSpec)

/-- 'variantproxylaw23.FreshnessGrows', WHERE WHAT IT READS IS OF BULK AT MOST 1048576: true; the input reads as it did. -/
def freshnessGrowsUptoRow : OpenClaim := { program := "yteemoibikkmlbaadoor", sum := "248bb4c442e22514e1e00e486c927c9d1d8019b6d7083319fa00b8f76b0f5088", func := "variantproxy/variantproxylaw23.FreshnessGrows", spec := "freshnessGrows", unfollowed := true, recurses := true, named := ["variantproxy/date.months", "variantproxy/date.monthLengths", "variantproxy/date.weekdays"], apart := false, laid := [("variantproxy/date.weekdays", laid_variantproxy_date_weekdays), ("variantproxy/date.months", laid_variantproxy_date_months), ("variantproxy/date.monthLengths", laid_variantproxy_date_monthLengths)], narrowed := true }
def FreshnessGrowsUptoSaid : Prop := freshnessGrowsUptoRow.holds Tryd.pinned (OpenSpec.upto freshnessGrowsSpec)

/-- 'variantproxylaw23.FreshnessFalls', WHERE WHAT IT READS IS OF BULK AT MOST 1048576: true; the input reads as it did. -/
def freshnessFallsUptoRow : OpenClaim := { program := "yteemoibikkmlbaadoor", sum := "248bb4c442e22514e1e00e486c927c9d1d8019b6d7083319fa00b8f76b0f5088", func := "variantproxy/variantproxylaw23.FreshnessFalls", spec := "freshnessFalls", unfollowed := true, recurses := true, named := ["variantproxy/date.months", "variantproxy/date.monthLengths", "variantproxy/date.weekdays"], apart := false, laid := [("variantproxy/date.weekdays", laid_variantproxy_date_weekdays), ("variantproxy/date.months", laid_variantproxy_date_months), ("variantproxy/date.monthLengths", laid_variantproxy_date_monthLengths)], narrowed := true }
def FreshnessFallsUptoSaid : Prop := freshnessFallsUptoRow.holds Tryd.pinned (OpenSpec.upto freshnessFallsSpec)

/-- 'variantproxylaw23.FreshnessStrict', WHERE WHAT IT READS IS OF BULK AT MOST 1048576: true; the input reads as it did. -/
def freshnessStrictUptoRow : OpenClaim := { program := "yteemoibikkmlbaadoor", sum := "248bb4c442e22514e1e00e486c927c9d1d8019b6d7083319fa00b8f76b0f5088", func := "variantproxy/variantproxylaw23.FreshnessStrict", spec := "freshnessStrict", unfollowed := true, recurses := true, named := ["variantproxy/date.months", "variantproxy/date.monthLengths", "variantproxy/date.weekdays"], apart := false, laid := [("variantproxy/date.weekdays", laid_variantproxy_date_weekdays), ("variantproxy/date.months", laid_variantproxy_date_months), ("variantproxy/date.monthLengths", laid_variantproxy_date_monthLengths)], narrowed := true }
def FreshnessStrictUptoSaid : Prop := freshnessStrictUptoRow.holds Tryd.pinned (OpenSpec.upto freshnessStrictSpec)

end Rows
end Go.Proofs.YteemoibikkmlbaaDoor
