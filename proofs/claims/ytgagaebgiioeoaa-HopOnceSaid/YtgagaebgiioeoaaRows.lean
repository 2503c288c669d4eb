/-
  No cell of these rows narrows 'for every input' (looked for: loops, veiled, ifaces, maps, wideKeys, modest, calm, conditions, laid).
  DERIVED. THE GIVEN ROWS OF THIS SEAT. 3 by the template 'for every input the law returns true; each argument reads behind the call as it read before'; 0 by the template 'total and deterministic' (their statements: YtgagaebgiioeoaaTotals.lean).
  GIVEN WITH THE SEED: the statements are not yours to turn. If you find one false, say at which input.
  Laid BY PROGRAM, IN A SANDBOX (cutbox-rows.mjs): the forced cells as the released guide's own fill.sh prints them over the translation b45a42059881931f… (all of the seat's roots in one cut). By AI agents, Wed Nov 11 2026. No macro, syntax, notation, axiom, sorry.
-/
import Derived.Test.YtgagaebgiioeoaaChecked
import GoSem.Claim
import GoSem.ClaimJoined
import GoSem.ClaimMapViews
import Derived.JoinedTies
import Derived.KernelRfl
namespace Go.Proofs.Ytgagaebgiioeoaa
/- THE CELL 'sum', in the pinned program and in every row, IS THE sha256 OF THE DUMP (.gsa) THAT YtgagaebgiioeoaaProg.lean LOADS. Nothing in Lean hashes anything: it is a label: what it is worth is what the hold of that sum in a sandbox is worth. -/
noncomputable def Try.pinned : Pinned := { name := "ytgagaebgiioeoaa", sum := "b45a42059881931f2de7ddc9bb92c009d4a1e084b43e989a578654692e1c930e", checked := Try.checked }
namespace Rows
def none {H : Type} : Left H := { results := [], args := [] }

/-- 'variantproxylaw25.HopStrips': WHATEVER THE INPUT: true; the input reads as it did. -/
def hopStripsSpec : ChangeSpec := { name := "hopStrips", fn := fun _ => fun
  | [d1, d2, d3] => { results := [.lit (.bool true)], args := [d1, d2, d3] }
  | _ => none }
def hopStripsRow : OpenClaim := { program := "ytgagaebgiioeoaa", sum := "b45a42059881931f2de7ddc9bb92c009d4a1e084b43e989a578654692e1c930e", func := "variantproxy/variantproxylaw25.HopStrips", spec := "hopStrips", inPlace := ["internal/bytealg.IndexByteString", "internal/bytealg.IndexString"], unfollowed := true, recurses := true, named := ["internal/bytealg.MaxLen"], apart := false }
def HopStripsSaid : Prop := hopStripsRow.holds Try.pinned (OpenSpec.ofChange hopStripsSpec)

/-- ITS FALSE NEIGHBOUR: 'it returns false'. Refute it at one input. -/
def hopStripsWrong : ChangeSpec := { name := "hopStrips", fn := fun _ => fun
  | [d1, d2, d3] => { results := [.lit (.bool false)], args := [d1, d2, d3] }
  | _ => none }
def HopStripsWrongFalsely : Prop := hopStripsRow.holds Try.pinned (OpenSpec.ofChange hopStripsWrong)

/-- 'variantproxylaw25.HopOnce': WHATEVER THE INPUT: true; the input reads as it did. -/
def hopOnceSpec : ChangeSpec := { name := "hopOnce", fn := fun _ => fun
  | [d] => { results := [.lit (.bool true)], args := [d] }
  | _ => none }
def hopOnceRow : OpenClaim := { program := "ytgagaebgiioeoaa", sum := "b45a42059881931f2de7ddc9bb92c009d4a1e084b43e989a578654692e1c930e", func := "variantproxy/variantproxylaw25.HopOnce", spec := "hopOnce", inPlace := ["internal/bytealg.IndexByteString", "internal/bytealg.IndexString"], unfollowed := true, recurses := true, named := ["internal/bytealg.MaxLen"], apart := false }
def HopOnceSaid : Prop := hopOnceRow.holds Try.pinned (OpenSpec.ofChange hopOnceSpec)

/-- ITS FALSE NEIGHBOUR: 'it returns false'. Refute it at one input. -/
def hopOnceWrong : ChangeSpec := { name := "hopOnce", fn := fun _ => fun
  | [d] => { results := [.lit (.bool false)], args := [d] }
  | _ => none }
def HopOnceWrongFalsely : Prop := hopOnceRow.holds Try.pinned (OpenSpec.ofChange hopOnceWrong)

/-- 'variantproxylaw25.HopNamed': WHATEVER THE INPUT: true; the input reads as it did. -/
def hopNamedSpec : ChangeSpec := { name := "hopNamed", fn := fun _ => fun
  | [d1, d2, d3] => { results := [.lit (.bool true)], args := [d1, d2, d3] }
  | _ => none }
def hopNamedRow : OpenClaim := { program := "ytgagaebgiioeoaa", sum := "b45a42059881931f2de7ddc9bb92c009d4a1e084b43e989a578654692e1c930e", func := "variantproxy/variantproxylaw25.HopNamed", spec := "hopNamed", inPlace := ["internal/bytealg.IndexByteString", "internal/bytealg.IndexString"], unfollowed := true, recurses := true, named := ["internal/bytealg.MaxLen"], apart := false }
def HopNamedSaid : Prop := hopNamedRow.holds Try.pinned (OpenSpec.ofChange hopNamedSpec)

/-- ITS FALSE NEIGHBOUR: 'it returns false'. Refute it at one input. -/
def hopNamedWrong : ChangeSpec := { name := "hopNamed", fn := fun _ => fun
  | [d1, d2, d3] => { results := [.lit (.bool false)], args := [d1, d2, d3] }
  | _ => none }
def HopNamedWrongFalsely : Prop := hopNamedRow.holds Try.pinned (OpenSpec.ofChange hopNamedWrong)

/- THE SECOND FORM. 'bulk': how many values and letters a reading holds, each counted each time it is reached (what is shared counts as often as it is met; a slice's spare places count too). A statement '..UptoSaid' is the law's where the arguments, and the package variables that the reading takes, are together of bulk at most 1048576: NARROWER than '..Said'. Prove '..Said' where nothing that the law and all that it calls make is longer than what came in: it says more and counts as full. Else prove '..UptoSaid'. A law counts once. -/
mutual
def uptoBulk {H : Type} : DataW H → Nat
  | .lit (.string bytes) => bytes.length + 1
  | .lit _ => 1
  | .nil => 1
  | .ptr d => uptoBulk d + 1
  | .slice elems spare => uptoBulkAll elems + uptoBulkAll spare + 1
  | .agg parts => uptoBulkAll parts + 1
  | .iface _ d => uptoBulk d + 1
  | .map entries => uptoBulkEntries entries + 1
  | .held _ => 1
def uptoBulkAll {H : Type} : List (DataW H) → Nat
  | [] => 0
  | d :: r => uptoBulk d + uptoBulkAll r
def uptoBulkEntries {H : Type} : List (Lit × DataW H) → Nat
  | [] => 0
  | x :: r => uptoBulkEntry x + uptoBulkEntries r
def uptoBulkEntry {H : Type} : Lit × DataW H → Nat
  | (.string bytes, d) => bytes.length + uptoBulk d + 1
  | (_, d) => uptoBulk d + 1
 end
def uptoSmall : (H : Type) → List (DataW H) → Bool := fun _ ds => decide (uptoBulkAll ds ≤ 1048576)
def OpenSpec.upto (s : _root_.Go.ChangeSpec) : _root_.Go.OpenSpec := { _root_.Go.OpenSpec.ofChange s with cond := some uptoSmall }

/-- 'variantproxylaw25.HopStrips', WHERE WHAT IT READS IS OF BULK AT MOST 1048576: true; the input reads as it did. -/
def hopStripsUptoRow : OpenClaim := { program := "ytgagaebgiioeoaa", sum := "b45a42059881931f2de7ddc9bb92c009d4a1e084b43e989a578654692e1c930e", func := "variantproxy/variantproxylaw25.HopStrips", spec := "hopStrips", inPlace := ["internal/bytealg.IndexByteString", "internal/bytealg.IndexString"], unfollowed := true, recurses := true, named := ["internal/bytealg.MaxLen"], apart := false, narrowed := true }
def HopStripsUptoSaid : Prop := hopStripsUptoRow.holds Try.pinned (OpenSpec.upto hopStripsSpec)

/-- 'variantproxylaw25.HopOnce', WHERE WHAT IT READS IS OF BULK AT MOST 1048576: true; the input reads as it did. -/
def hopOnceUptoRow : OpenClaim := { program := "ytgagaebgiioeoaa", sum := "b45a42059881931f2de7ddc9bb92c009d4a1e084b43e989a578654692e1c930e", func := "variantproxy/variantproxylaw25.HopOnce", spec := "hopOnce", inPlace := ["internal/bytealg.IndexByteString", "internal/bytealg.IndexString"], unfollowed := true, recurses := true, named := ["internal/bytealg.MaxLen"], apart := false, narrowed := true }
def HopOnceUptoSaid : Prop := hopOnceUptoRow.holds Try.pinned (OpenSpec.upto hopOnceSpec)

/-- 'variantproxylaw25.HopNamed', WHERE WHAT IT READS IS OF BULK AT MOST 1048576: true; the input reads as it did. -/
def hopNamedUptoRow : OpenClaim := { program := "ytgagaebgiioeoaa", sum := "b45a42059881931f2de7ddc9bb92c009d4a1e084b43e989a578654692e1c930e", func := "variantproxy/variantproxylaw25.HopNamed", spec := "hopNamed", inPlace := ["internal/bytealg.IndexByteString", "internal/bytealg.IndexString"], unfollowed := true, recurses := true, named := ["internal/bytealg.MaxLen"], apart := false, narrowed := true }
def HopNamedUptoSaid : Prop := hopNamedUptoRow.holds Try.pinned (OpenSpec.upto hopNamedSpec)

end Rows
end Go.Proofs.Ytgagaebgiioeoaa
