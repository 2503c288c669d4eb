/-
  NARROWER THAN 'FOR EVERY INPUT', by the rows' own cells (each row's printed sentence says how): AcceptKinds: laid · AcceptPrefs: laid · AcceptBack: laid · AcceptLines: laid.
  DERIVED. THE GIVEN ROWS OF THIS SEAT. 4 by the template 'for every input the law returns true; each argument reads behind the call as it read before'; 0 by the template 'total and deterministic' (their statements: YtnpllgjkbpnimaaDoorTotals.lean).
  GIVEN WITH THE SEED: the statements are not yours to turn. If you find one false, say at which input.
  Laid BY PROGRAM, IN A SANDBOX (cutbox-rows.mjs): the forced cells as the released guide's own fill.sh prints them over the translation 8d8780eeb2e20ed2… (all of the seat's roots in one cut). By AI agents, Wed Nov 11 2026. No macro, syntax, notation, axiom, sorry.
-/
import Derived.Test.YtnpllgjkbpnimaaDoorChecked
import GoSem.Claim
import GoSem.ClaimJoined
import GoSem.ClaimMapViews
import Derived.JoinedTies
import Derived.KernelRfl
namespace Go.Proofs.YtnpllgjkbpnimaaDoor
/- THE CELL 'sum', in the pinned program and in every row, IS THE sha256 OF THE DUMP (.gsa) THAT YtnpllgjkbpnimaaDoorProg.lean LOADS. Nothing in Lean hashes anything: it is a label: what it is worth is what the hold of that sum in a sandbox is worth. -/
noncomputable def Tryd.pinned : Pinned := { name := "ytnpllgjkbpnimaadoor", sum := "8d8780eeb2e20ed23957eebe4b11e7416b177ced3be826bea690792ed822adf5", checked := Tryd.checked }
namespace Rows
def none {H : Type} : Left H := { results := [], args := [] }

/- WHAT THE LISTED PACKAGE-LEVEL VARIABLES READ AS WHEN THE CALL BEGINS. Each datum BY PROGRAM (the guide's laid-datum.mjs) off the statement by which the dump's own 'gosem.cut.vars' lays the variable. In a bare row this is a premise. The card (YtnpllgjkbpnimaaDoorCards.lean) ties it to the program's text. -/
def laid_variantproxy_qvalue_weights {H : Type} : DataW H := .agg [.lit (.int .i64 100), .lit (.int .i64 10), .lit (.int .i64 1)]

/-- 'variantproxylaw13.AcceptKinds': WHATEVER THE INPUT: true; the input reads as it did. -/
def acceptKindsSpec : ChangeSpec := { name := "acceptKinds", fn := fun _ => fun
  | [d1, d2] => { results := [.lit (.bool true)], args := [d1, d2] }
  | _ => none }
def acceptKindsRow : OpenClaim := { program := "ytnpllgjkbpnimaadoor", sum := "8d8780eeb2e20ed23957eebe4b11e7416b177ced3be826bea690792ed822adf5", func := "variantproxy/variantproxylaw13.AcceptKinds", spec := "acceptKinds", inPlace := ["internal/bytealg.IndexByteString", "internal/bytealg.IndexString", "internal/abi.NoEscape"], unfollowed := true, recurses := true, named := ["internal/bytealg.MaxLen", "variantproxy/qvalue.weights"], apart := false, laid := [("variantproxy/qvalue.weights", laid_variantproxy_qvalue_weights)] }
def AcceptKindsSaid : Prop := acceptKindsRow.holds Tryd.pinned (OpenSpec.ofChange acceptKindsSpec)

/-- ITS FALSE NEIGHBOUR: 'it returns false'. Refute it at one input. -/
def acceptKindsWrong : ChangeSpec := { name := "acceptKinds", fn := fun _ => fun
  | [d1, d2] => { results := [.lit (.bool false)], args := [d1, d2] }
  | _ => none }
def AcceptKindsWrongFalsely : Prop := acceptKindsRow.holds Tryd.pinned (OpenSpec.ofChange acceptKindsWrong)

/-- 'variantproxylaw13.AcceptPrefs': WHATEVER THE INPUT: true; the input reads as it did. -/
def acceptPrefsSpec : ChangeSpec := { name := "acceptPrefs", fn := fun _ => fun
  | [d1, d2] => { results := [.lit (.bool true)], args := [d1, d2] }
  | _ => none }
def acceptPrefsRow : OpenClaim := { program := "ytnpllgjkbpnimaadoor", sum := "8d8780eeb2e20ed23957eebe4b11e7416b177ced3be826bea690792ed822adf5", func := "variantproxy/variantproxylaw13.AcceptPrefs", spec := "acceptPrefs", inPlace := ["internal/bytealg.IndexByteString", "internal/bytealg.IndexString", "internal/abi.NoEscape"], unfollowed := true, recurses := true, named := ["internal/bytealg.MaxLen", "variantproxy/qvalue.weights"], apart := false, laid := [("variantproxy/qvalue.weights", laid_variantproxy_qvalue_weights)] }
def AcceptPrefsSaid : Prop := acceptPrefsRow.holds Tryd.pinned (OpenSpec.ofChange acceptPrefsSpec)

/-- ITS FALSE NEIGHBOUR: 'it returns false'. Refute it at one input. -/
def acceptPrefsWrong : ChangeSpec := { name := "acceptPrefs", fn := fun _ => fun
  | [d1, d2] => { results := [.lit (.bool false)], args := [d1, d2] }
  | _ => none }
def AcceptPrefsWrongFalsely : Prop := acceptPrefsRow.holds Tryd.pinned (OpenSpec.ofChange acceptPrefsWrong)

/-- 'variantproxylaw13.AcceptBack': WHATEVER THE INPUT: true; the input reads as it did. -/
def acceptBackSpec : ChangeSpec := { name := "acceptBack", fn := fun _ => fun
  | [d1, d2] => { results := [.lit (.bool true)], args := [d1, d2] }
  | _ => none }
def acceptBackRow : OpenClaim := { program := "ytnpllgjkbpnimaadoor", sum := "8d8780eeb2e20ed23957eebe4b11e7416b177ced3be826bea690792ed822adf5", func := "variantproxy/variantproxylaw13.AcceptBack", spec := "acceptBack", inPlace := ["internal/bytealg.IndexByteString", "internal/bytealg.IndexString", "internal/abi.NoEscape", "internal/bytealg.MakeNoZero"], unfollowed := true, recurses := true, named := ["internal/bytealg.MaxLen", "variantproxy/qvalue.weights"], apart := false, laid := [("variantproxy/qvalue.weights", laid_variantproxy_qvalue_weights)] }
def AcceptBackSaid : Prop := acceptBackRow.holds Tryd.pinned (OpenSpec.ofChange acceptBackSpec)

/-- ITS FALSE NEIGHBOUR: 'it returns false'. Refute it at one input. -/
def acceptBackWrong : ChangeSpec := { name := "acceptBack", fn := fun _ => fun
  | [d1, d2] => { results := [.lit (.bool false)], args := [d1, d2] }
  | _ => none }
def AcceptBackWrongFalsely : Prop := acceptBackRow.holds Tryd.pinned (OpenSpec.ofChange acceptBackWrong)

/-- 'variantproxylaw13.AcceptLines': WHATEVER THE INPUT: true; the input reads as it did. -/
def acceptLinesSpec : ChangeSpec := { name := "acceptLines", fn := fun _ => fun
  | [d1, d2, d3] => { results := [.lit (.bool true)], args := [d1, d2, d3] }
  | _ => none }
def acceptLinesRow : OpenClaim := { program := "ytnpllgjkbpnimaadoor", sum := "8d8780eeb2e20ed23957eebe4b11e7416b177ced3be826bea690792ed822adf5", func := "variantproxy/variantproxylaw13.AcceptLines", spec := "acceptLines", inPlace := ["internal/bytealg.IndexByteString", "internal/bytealg.IndexString", "internal/abi.NoEscape"], unfollowed := true, recurses := true, named := ["internal/bytealg.MaxLen", "variantproxy/qvalue.weights"], apart := false, laid := [("variantproxy/qvalue.weights", laid_variantproxy_qvalue_weights)] }
def AcceptLinesSaid : Prop := acceptLinesRow.holds Tryd.pinned (OpenSpec.ofChange acceptLinesSpec)

/-- ITS FALSE NEIGHBOUR: 'it returns false'. Refute it at one input. -/
def acceptLinesWrong : ChangeSpec := { name := "acceptLines", fn := fun _ => fun
  | [d1, d2, d3] => { results := [.lit (.bool false)], args := [d1, d2, d3] }
  | _ => none }
def AcceptLinesWrongFalsely : Prop := acceptLinesRow.holds Tryd.pinned (OpenSpec.ofChange acceptLinesWrong)

/- THE SECOND FORM. 'bulk': how many values and letters a reading holds, each counted each time it is reached (what is shared counts as often as it is met; a slice's spare places count too). A statement '..UptoSaid' is the law's where the arguments, and the package variables that the reading takes, are together of bulk at most 1048576: NARROWER than '..Said'. Prove '..Said' where nothing that the law and all that it calls make is longer than what came in: it says more and counts as full. Else prove '..UptoSaid'. A law counts once. -/
mutual
def uptoBulk {H : Type} : DataW H → Nat
  | .lit (.string bytes) => bytes.length + 1
  | .lit _ => 1
  | .nil => 1
  | .ptr d => uptoBulk d + 1
  | .slice elems spare => uptoBulkAll elems + uptoBulkAll spare + 1
  | .agg parts => uptoBulkAll parts + 1
  | .iface _ d => uptoBulk d + 1
  | .map entries => uptoBulkEntries entries + 1
  | .held _ => 1
def uptoBulkAll {H : Type} : List (DataW H) → Nat
  | [] => 0
  | d :: r => uptoBulk d + uptoBulkAll r
def uptoBulkEntries {H : Type} : List (Lit × DataW H) → Nat
  | [] => 0
  | x :: r => uptoBulkEntry x + uptoBulkEntries r
def uptoBulkEntry {H : Type} : Lit × DataW H → Nat
  | (.string bytes, d) => bytes.length + uptoBulk d + 1
  | (_, d) => uptoBulk d + 1
 end
def uptoSmall : (H : Type) → List (DataW H) → Bool := fun _ ds => decide (uptoBulkAll ds ≤ 1048576)
def OpenSpec.upto (s : _root_.Go.ChangeSpec) : _root_.Go.OpenSpec := { _root_.Go.OpenSpec.ofChange s with cond := some uptoSmall }

/-- 'variantproxylaw13.AcceptKinds', WHERE WHAT IT READS IS OF BULK AT MOST 1048576: true; the input reads as it did. -/
def acceptKindsUptoRow : OpenClaim := { program := "ytnpllgjkbpnimaadoor", sum := "8d8780eeb2e20ed23957eebe4b11e7416b177ced3be826bea690792ed822adf5", func := "variantproxy/variantproxylaw13.AcceptKinds", spec := "acceptKinds", inPlace := ["internal/bytealg.IndexByteString", "internal/bytealg.IndexString", "internal/abi.NoEscape"], unfollowed := true, recurses := true, named := ["internal/bytealg.MaxLen", "variantproxy/qvalue.weights"], apart := false, laid := [("variantproxy/qvalue.weights", laid_variantproxy_qvalue_weights)], narrowed := true }
def AcceptKindsUptoSaid : Prop := acceptKindsUptoRow.holds Tryd.pinned (OpenSpec.upto acceptKindsSpec)

/-- 'variantproxylaw13.AcceptPrefs', WHERE WHAT IT READS IS OF BULK AT MOST 1048576: true; the input reads as it did. -/
def acceptPrefsUptoRow : OpenClaim := { program := "ytnpllgjkbpnimaadoor", sum := "8d8780eeb2e20ed23957eebe4b11e7416b177ced3be826bea690792ed822adf5", func := "variantproxy/variantproxylaw13.AcceptPrefs", spec := "acceptPrefs", inPlace := ["internal/bytealg.IndexByteString", "internal/bytealg.IndexString", "internal/abi.NoEscape"], unfollowed := true, recurses := true, named := ["internal/bytealg.MaxLen", "variantproxy/qvalue.weights"], apart := false, laid := [("variantproxy/qvalue.weights", laid_variantproxy_qvalue_weights)], narrowed := true }
def AcceptPrefsUptoSaid : Prop := acceptPrefsUptoRow.holds Tryd.pinned (OpenSpec.upto acceptPrefsSpec)

/-- 'variantproxylaw13.AcceptBack', WHERE WHAT IT READS IS OF BULK AT MOST 1048576: true; the input reads as it did. -/
def acceptBackUptoRow : OpenClaim := { program := "ytnpllgjkbpnimaadoor", sum := "8d8780eeb2e20ed23957eebe4b11e7416b177ced3be826bea690792ed822adf5", func := "variantproxy/variantproxylaw13.AcceptBack", spec := "acceptBack", inPlace := ["internal/bytealg.IndexByteString", "internal/bytealg.IndexString", "internal/abi.NoEscape", "internal/bytealg.MakeNoZero"], unfollowed := true, recurses := true, named := ["internal/bytealg.MaxLen", "variantproxy/qvalue.weights"], apart := false, laid := [("variantproxy/qvalue.weights", laid_variantproxy_qvalue_weights)], narrowed := true }
def AcceptBackUptoSaid : Prop := acceptBackUptoRow.holds Tryd.pinned (OpenSpec.upto acceptBackSpec)

/-- 'variantproxylaw13.AcceptLines', WHERE WHAT IT READS IS OF BULK AT MOST 1048576: true; the input reads as it did. -/
def acceptLinesUptoRow : OpenClaim := { program := "ytnpllgjkbpnimaadoor", sum := "8d8780eeb2e20ed23957eebe4b11e7416b177ced3be826bea690792ed822adf5", func := "variantproxy/variantproxylaw13.AcceptLines", spec := "acceptLines", inPlace := ["internal/bytealg.IndexByteString", "internal/bytealg.IndexString", "internal/abi.NoEscape"], unfollowed := true, recurses := true, named := ["internal/bytealg.MaxLen", "variantproxy/qvalue.weights"], apart := false, laid := [("variantproxy/qvalue.weights", laid_variantproxy_qvalue_weights)], narrowed := true }
def AcceptLinesUptoSaid : Prop := acceptLinesUptoRow.holds Tryd.pinned (OpenSpec.upto acceptLinesSpec)

end Rows
end Go.Proofs.YtnpllgjkbpnimaaDoor
