/-
  NARROWER THAN 'FOR EVERY INPUT', by the rows' own cells (each row's printed sentence says how): StorableDecides: laid · StorableParts: laid · StorableNeeds: laid.
  DERIVED. THE GIVEN ROWS OF THIS SEAT. 3 by the template 'for every input the law returns true; each argument reads behind the call as it read before'; 0 by the template 'total and deterministic' (their statements: YtiogngfemelifaaGreatDoorTotals.lean).
  GIVEN WITH THE SEED: the statements are not yours to turn. If you find one false, say at which input.
  Laid BY PROGRAM, IN A SANDBOX (cutbox-rows.mjs): the forced cells as the released guide's own fill.sh prints them over the translation 4a1c8b55bca4ec3b… (all of the seat's roots in one cut). By AI agents, Wed Nov 11 2026. No macro, syntax, notation, axiom, sorry.
-/
import Derived.Test.YtiogngfemelifaaGreatDoorChecked
import GoSem.Claim
import GoSem.ClaimJoined
import GoSem.ClaimMapViews
import Derived.JoinedTies
import Derived.KernelRfl
namespace Go.Proofs.YtiogngfemelifaaGreatDoor
/- THE CELL 'sum', in the pinned program and in every row, IS THE sha256 OF THE DUMP (.gsa) THAT YtiogngfemelifaaGreatDoorProg.lean LOADS. Nothing in Lean hashes anything: it is a label: what it is worth is what the hold of that sum in a sandbox is worth. -/
noncomputable def Tryz.pinned : Pinned := { name := "ytiogngfemelifaagreatdoor", sum := "4a1c8b55bca4ec3b645a8c9eefacbf5a19d87c8931b331ec17e49ab738cd494b", checked := Tryz.checked }
namespace Rows
def none {H : Type} : Left H := { results := [], args := [] }

/- WHAT THE LISTED PACKAGE-LEVEL VARIABLES READ AS WHEN THE CALL BEGINS. Each datum BY PROGRAM (the guide's laid-datum.mjs) off the statement by which the dump's own 'gosem.cut.vars' lays the variable. In a bare row this is a premise. The card (YtiogngfemelifaaGreatDoorCards.lean) ties it to the program's text. -/
def laid_variantproxy_date_weekdays {H : Type} : DataW H := .agg [.lit (.string [84, 104, 117]), .lit (.string [70, 114, 105]), .lit (.string [83, 97, 116]), .lit (.string [83, 117, 110]), .lit (.string [77, 111, 110]), .lit (.string [84, 117, 101]), .lit (.string [87, 101, 100])]
def laid_variantproxy_date_months {H : Type} : DataW H := .agg [.lit (.string [74, 97, 110]), .lit (.string [70, 101, 98]), .lit (.string [77, 97, 114]), .lit (.string [65, 112, 114]), .lit (.string [77, 97, 121]), .lit (.string [74, 117, 110]), .lit (.string [74, 117, 108]), .lit (.string [65, 117, 103]), .lit (.string [83, 101, 112]), .lit (.string [79, 99, 116]), .lit (.string [78, 111, 118]), .lit (.string [68, 101, 99])]
def laid_variantproxy_date_monthLengths {H : Type} : DataW H := .agg [.lit (.int .i64 31), .lit (.int .i64 28), .lit (.int .i64 31), .lit (.int .i64 30), .lit (.int .i64 31), .lit (.int .i64 30), .lit (.int .i64 31), .lit (.int .i64 31), .lit (.int .i64 30), .lit (.int .i64 31), .lit (.int .i64 30), .lit (.int .i64 31)]

/-- 'variantproxylaw24.StorableDecides': WHATEVER THE INPUT: true; the input reads as it did. -/
def storableDecidesSpec : ChangeSpec := { name := "storableDecides", fn := fun _ => fun
  | [d1, d2] => { results := [.lit (.bool true)], args := [d1, d2] }
  | _ => none }
def storableDecidesRow : OpenClaim := { program := "ytiogngfemelifaagreatdoor", sum := "4a1c8b55bca4ec3b645a8c9eefacbf5a19d87c8931b331ec17e49ab738cd494b", func := "variantproxy/variantproxylaw24.StorableDecides", spec := "storableDecides", unfollowed := true, recurses := true, named := ["variantproxy/date.months", "variantproxy/date.monthLengths", "variantproxy/date.weekdays"], apart := false, laid := [("variantproxy/date.weekdays", laid_variantproxy_date_weekdays), ("variantproxy/date.months", laid_variantproxy_date_months), ("variantproxy/date.monthLengths", laid_variantproxy_date_monthLengths)] }
def StorableDecidesSaid : Prop := storableDecidesRow.holds Tryz.pinned (OpenSpec.ofChange storableDecidesSpec)

/-- ITS FALSE NEIGHBOUR: 'it returns false'. Refute it at one input. -/
def storableDecidesWrong : ChangeSpec := { name := "storableDecides", fn := fun _ => fun
  | [d1, d2] => { results := [.lit (.bool false)], args := [d1, d2] }
  | _ => none }
def StorableDecidesWrongFalsely : Prop := storableDecidesRow.holds Tryz.pinned (OpenSpec.ofChange storableDecidesWrong)

/-- 'variantproxylaw24.StorableParts': WHATEVER THE INPUT: true; the input reads as it did. -/
def storablePartsSpec : ChangeSpec := { name := "storableParts", fn := fun _ => fun
  | [d1, d2] => { results := [.lit (.bool true)], args := [d1, d2] }
  | _ => none }
def storablePartsRow : OpenClaim := { program := "ytiogngfemelifaagreatdoor", sum := "4a1c8b55bca4ec3b645a8c9eefacbf5a19d87c8931b331ec17e49ab738cd494b", func := "variantproxy/variantproxylaw24.StorableParts", spec := "storableParts", unfollowed := true, recurses := true, named := ["variantproxy/date.months", "variantproxy/date.monthLengths", "variantproxy/date.weekdays"], apart := false, laid := [("variantproxy/date.weekdays", laid_variantproxy_date_weekdays), ("variantproxy/date.months", laid_variantproxy_date_months), ("variantproxy/date.monthLengths", laid_variantproxy_date_monthLengths)] }
def StorablePartsSaid : Prop := storablePartsRow.holds Tryz.pinned (OpenSpec.ofChange storablePartsSpec)

/-- ITS FALSE NEIGHBOUR: 'it returns false'. Refute it at one input. -/
def storablePartsWrong : ChangeSpec := { name := "storableParts", fn := fun _ => fun
  | [d1, d2] => { results := [.lit (.bool false)], args := [d1, d2] }
  | _ => none }
def StorablePartsWrongFalsely : Prop := storablePartsRow.holds Tryz.pinned (OpenSpec.ofChange storablePartsWrong)

/-- 'variantproxylaw24.StorableNeeds': WHATEVER THE INPUT: true; the input reads as it did. -/
def storableNeedsSpec : ChangeSpec := { name := "storableNeeds", fn := fun _ => fun
  | [d1, d2] => { results := [.lit (.bool true)], args := [d1, d2] }
  | _ => none }
def storableNeedsRow : OpenClaim := { program := "ytiogngfemelifaagreatdoor", sum := "4a1c8b55bca4ec3b645a8c9eefacbf5a19d87c8931b331ec17e49ab738cd494b", func := "variantproxy/variantproxylaw24.StorableNeeds", spec := "storableNeeds", unfollowed := true, recurses := true, named := ["variantproxy/date.months", "variantproxy/date.monthLengths", "variantproxy/date.weekdays"], apart := false, laid := [("variantproxy/date.weekdays", laid_variantproxy_date_weekdays), ("variantproxy/date.months", laid_variantproxy_date_months), ("variantproxy/date.monthLengths", laid_variantproxy_date_monthLengths)] }
def StorableNeedsSaid : Prop := storableNeedsRow.holds Tryz.pinned (OpenSpec.ofChange storableNeedsSpec)

/-- ITS FALSE NEIGHBOUR: 'it returns false'. Refute it at one input. -/
def storableNeedsWrong : ChangeSpec := { name := "storableNeeds", fn := fun _ => fun
  | [d1, d2] => { results := [.lit (.bool false)], args := [d1, d2] }
  | _ => none }
def StorableNeedsWrongFalsely : Prop := storableNeedsRow.holds Tryz.pinned (OpenSpec.ofChange storableNeedsWrong)

/- THE SECOND FORM. 'bulk': how many values and letters a reading holds, each counted each time it is reached (what is shared counts as often as it is met; a slice's spare places count too). A statement '..UptoSaid' is the law's where the arguments, and the package variables that the reading takes, are together of bulk at most 1048576: NARROWER than '..Said'. Prove '..Said' where nothing that the law and all that it calls make is longer than what came in: it says more and counts as full. Else prove '..UptoSaid'. A law counts once. -/
mutual
def uptoBulk {H : Type} : DataW H → Nat
  | .lit (.string bytes) => bytes.length + 1
  | .lit _ => 1
  | .nil => 1
  | .ptr d => uptoBulk d + 1
  | .slice elems spare => uptoBulkAll elems + uptoBulkAll spare + 1
  | .agg parts => uptoBulkAll parts + 1
  | .iface _ d => uptoBulk d + 1
  | .map entries => uptoBulkEntries entries + 1
  | .held _ => 1
def uptoBulkAll {H : Type} : List (DataW H) → Nat
  | [] => 0
  | d :: r => uptoBulk d + uptoBulkAll r
def uptoBulkEntries {H : Type} : List (Lit × DataW H) → Nat
  | [] => 0
  | x :: r => uptoBulkEntry x + uptoBulkEntries r
def uptoBulkEntry {H : Type} : Lit × DataW H → Nat
  | (.string bytes, d) => bytes.length + uptoBulk d + 1
  | (_, d) => uptoBulk d + 1
 end
def uptoSmall : (H : Type) → List (DataW H) → Bool := fun _ ds => decide (uptoBulkAll ds ≤ 1048576)
def OpenSpec.upto (s : _root_.Go.ChangeSpec) : _root_.Go.OpenSpec := { _root_.Go.OpenSpec.ofChange s with cond := some uptoSmall }

/-- 'variantproxylaw24.StorableDecides', WHERE WHAT IT READS IS OF BULK AT MOST 1048576: true; the input reads as it did. -/
def storableDecidesUptoRow : OpenClaim := { program := "ytiogngfemelifaagreatdoor", sum := "4a1c8b55bca4ec3b645a8c9eefacbf5a19d87c8931b331ec17e49ab738cd494b", func := "variantproxy/variantproxylaw24.StorableDecides", spec := "storableDecides", unfollowed := true, recurses := true, named := ["variantproxy/date.months", "variantproxy/date.monthLengths", "variantproxy/date.weekdays"], apart := false, laid := [("variantproxy/date.weekdays", laid_variantproxy_date_weekdays), ("variantproxy/date.months", laid_variantproxy_date_months), ("variantproxy/date.monthLengths", laid_variantproxy_date_monthLengths)], narrowed := true }
def StorableDecidesUptoSaid : Prop := storableDecidesUptoRow.holds Tryz.pinned (OpenSpec.upto storableDecidesSpec)

/-- 'variantproxylaw24.StorableParts', WHERE WHAT IT READS IS OF BULK AT MOST 1048576: true; the input reads as it did. -/
def storablePartsUptoRow : OpenClaim := { program := "ytiogngfemelifaagreatdoor", sum := "4a1c8b55bca4ec3b645a8c9eefacbf5a19d87c8931b331ec17e49ab738cd494b", func := "variantproxy/variantproxylaw24.StorableParts", spec := "storableParts", unfollowed := true, recurses := true, named := ["variantproxy/date.months", "variantproxy/date.monthLengths", "variantproxy/date.weekdays"], apart := false, laid := [("variantproxy/date.weekdays", laid_variantproxy_date_weekdays), ("variantproxy/date.months", laid_variantproxy_date_months), ("variantproxy/date.monthLengths", laid_variantproxy_date_monthLengths)], narrowed := true }
def StorablePartsUptoSaid : Prop := storablePartsUptoRow.holds Tryz.pinned (OpenSpec.upto storablePartsSpec)

/-- 'variantproxylaw24.StorableNeeds', WHERE WHAT IT READS IS OF BULK AT MOST 1048576: true; the input reads as it did. -/
def storableNeedsUptoRow : OpenClaim := { program := "ytiogngfemelifaagreatdoor", sum := "4a1c8b55bca4ec3b645a8c9eefacbf5a19d87c8931b331ec17e49ab738cd494b", func := "variantproxy/variantproxylaw24.StorableNeeds", spec := "storableNeeds", unfollowed := true, recurses := true, named := ["variantproxy/date.months", "variantproxy/date.monthLengths", "variantproxy/date.weekdays"], apart := false, laid := [("variantproxy/date.weekdays", laid_variantproxy_date_weekdays), ("variantproxy/date.months", laid_variantproxy_date_months), ("variantproxy/date.monthLengths", laid_variantproxy_date_monthLengths)], narrowed := true }
def StorableNeedsUptoSaid : Prop := storableNeedsUptoRow.holds Tryz.pinned (OpenSpec.upto storableNeedsSpec)

end Rows
end Go.Proofs.YtiogngfemelifaaGreatDoor
