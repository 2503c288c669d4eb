/-
  No cell of these rows narrows 'for every input' (looked for: loops, veiled, ifaces, maps, wideKeys, modest, calm, conditions, laid).
  DERIVED. THE GIVEN ROWS OF THIS SEAT. 5 by the template 'for every input the law returns true; each argument reads behind the call as it read before'; 0 by the template 'total and deterministic' (their statements: YtcpmacmcfedaaaaTotals.lean).
  GIVEN WITH THE SEED: the statements are not yours to turn. If you find one false, say at which input.
  Laid BY PROGRAM, IN A SANDBOX (cutbox-rows.mjs): the forced cells as the released guide's own fill.sh prints them over the translation e8711c979af4e232… (all of the seat's roots in one cut). By AI agents, Wed Nov 11 2026. No macro, syntax, notation, axiom, sorry.
-/
import Derived.Test.YtcpmacmcfedaaaaChecked
import GoSem.Claim
import GoSem.ClaimJoined
import GoSem.ClaimMapViews
import Derived.JoinedTies
import Derived.KernelRfl
namespace Go.Proofs.Ytcpmacmcfedaaaa
/- THE CELL 'sum', in the pinned program and in every row, IS THE sha256 OF THE DUMP (.gsa) THAT YtcpmacmcfedaaaaProg.lean LOADS. Nothing in Lean hashes anything: it is a label: what it is worth is what the hold of that sum in a sandbox is worth. -/
noncomputable def Try.pinned : Pinned := { name := "ytcpmacmcfedaaaa", sum := "e8711c979af4e232827364d44fb0a3aef019ee9178efbeebc70144c6b521aef4", checked := Try.checked }
namespace Rows
def none {H : Type} : Left H := { results := [], args := [] }

/-- 'variantproxylaw02.StartlineRequests': WHATEVER THE INPUT: true; the input reads as it did. -/
def startlineRequestsSpec : ChangeSpec := { name := "startlineRequests", fn := fun _ => fun
  | [d] => { results := [.lit (.bool true)], args := [d] }
  | _ => none }
def startlineRequestsRow : OpenClaim := { program := "ytcpmacmcfedaaaa", sum := "e8711c979af4e232827364d44fb0a3aef019ee9178efbeebc70144c6b521aef4", func := "variantproxy/variantproxylaw02.StartlineRequests", spec := "startlineRequests", inPlace := ["internal/bytealg.IndexByteString", "internal/bytealg.IndexString"], named := ["internal/bytealg.MaxLen"], apart := false }
def StartlineRequestsSaid : Prop := startlineRequestsRow.holds Try.pinned (OpenSpec.ofChange startlineRequestsSpec)

/-- ITS FALSE NEIGHBOUR: 'it returns false'. Refute it at one input. -/
def startlineRequestsWrong : ChangeSpec := { name := "startlineRequests", fn := fun _ => fun
  | [d] => { results := [.lit (.bool false)], args := [d] }
  | _ => none }
def StartlineRequestsWrongFalsely : Prop := startlineRequestsRow.holds Try.pinned (OpenSpec.ofChange startlineRequestsWrong)

/-- 'variantproxylaw02.StartlineStatuses': WHATEVER THE INPUT: true; the input reads as it did. -/
def startlineStatusesSpec : ChangeSpec := { name := "startlineStatuses", fn := fun _ => fun
  | [d] => { results := [.lit (.bool true)], args := [d] }
  | _ => none }
def startlineStatusesRow : OpenClaim := { program := "ytcpmacmcfedaaaa", sum := "e8711c979af4e232827364d44fb0a3aef019ee9178efbeebc70144c6b521aef4", func := "variantproxy/variantproxylaw02.StartlineStatuses", spec := "startlineStatuses", inPlace := ["internal/bytealg.IndexByteString", "internal/bytealg.IndexString"], named := ["internal/bytealg.MaxLen"], apart := false }
def StartlineStatusesSaid : Prop := startlineStatusesRow.holds Try.pinned (OpenSpec.ofChange startlineStatusesSpec)

/-- ITS FALSE NEIGHBOUR: 'it returns false'. Refute it at one input. -/
def startlineStatusesWrong : ChangeSpec := { name := "startlineStatuses", fn := fun _ => fun
  | [d] => { results := [.lit (.bool false)], args := [d] }
  | _ => none }
def StartlineStatusesWrongFalsely : Prop := startlineStatusesRow.holds Try.pinned (OpenSpec.ofChange startlineStatusesWrong)

/-- 'variantproxylaw02.StartlineFormats': WHATEVER THE INPUT: true; the input reads as it did. -/
def startlineFormatsSpec : ChangeSpec := { name := "startlineFormats", fn := fun _ => fun
  | [d1, d2, d3, d4, d5] => { results := [.lit (.bool true)], args := [d1, d2, d3, d4, d5] }
  | _ => none }
def startlineFormatsRow : OpenClaim := { program := "ytcpmacmcfedaaaa", sum := "e8711c979af4e232827364d44fb0a3aef019ee9178efbeebc70144c6b521aef4", func := "variantproxy/variantproxylaw02.StartlineFormats", spec := "startlineFormats", inPlace := ["internal/bytealg.IndexByteString", "internal/bytealg.IndexString"], named := ["internal/bytealg.MaxLen"], apart := false }
def StartlineFormatsSaid : Prop := startlineFormatsRow.holds Try.pinned (OpenSpec.ofChange startlineFormatsSpec)

/-- ITS FALSE NEIGHBOUR: 'it returns false'. Refute it at one input. -/
def startlineFormatsWrong : ChangeSpec := { name := "startlineFormats", fn := fun _ => fun
  | [d1, d2, d3, d4, d5] => { results := [.lit (.bool false)], args := [d1, d2, d3, d4, d5] }
  | _ => none }
def StartlineFormatsWrongFalsely : Prop := startlineFormatsRow.holds Try.pinned (OpenSpec.ofChange startlineFormatsWrong)

/-- 'variantproxylaw02.StartlineBack': WHATEVER THE INPUT: true; the input reads as it did. -/
def startlineBackSpec : ChangeSpec := { name := "startlineBack", fn := fun _ => fun
  | [d] => { results := [.lit (.bool true)], args := [d] }
  | _ => none }
def startlineBackRow : OpenClaim := { program := "ytcpmacmcfedaaaa", sum := "e8711c979af4e232827364d44fb0a3aef019ee9178efbeebc70144c6b521aef4", func := "variantproxy/variantproxylaw02.StartlineBack", spec := "startlineBack", inPlace := ["internal/bytealg.IndexByteString", "internal/bytealg.IndexString"], named := ["internal/bytealg.MaxLen"], apart := false }
def StartlineBackSaid : Prop := startlineBackRow.holds Try.pinned (OpenSpec.ofChange startlineBackSpec)

/-- ITS FALSE NEIGHBOUR: 'it returns false'. Refute it at one input. -/
def startlineBackWrong : ChangeSpec := { name := "startlineBack", fn := fun _ => fun
  | [d] => { results := [.lit (.bool false)], args := [d] }
  | _ => none }
def StartlineBackWrongFalsely : Prop := startlineBackRow.holds Try.pinned (OpenSpec.ofChange startlineBackWrong)

/-- 'variantproxylaw02.StartlineLong': WHATEVER THE INPUT: true; the input reads as it did. -/
def startlineLongSpec : ChangeSpec := { name := "startlineLong", fn := fun _ => fun
  | [d1, d2] => { results := [.lit (.bool true)], args := [d1, d2] }
  | _ => none }
def startlineLongRow : OpenClaim := { program := "ytcpmacmcfedaaaa", sum := "e8711c979af4e232827364d44fb0a3aef019ee9178efbeebc70144c6b521aef4", func := "variantproxy/variantproxylaw02.StartlineLong", spec := "startlineLong", inPlace := ["internal/bytealg.IndexByteString", "internal/bytealg.IndexString"], named := ["internal/bytealg.MaxLen"], apart := false }
def StartlineLongSaid : Prop := startlineLongRow.holds Try.pinned (OpenSpec.ofChange startlineLongSpec)

/-- ITS FALSE NEIGHBOUR: 'it returns false'. Refute it at one input. -/
def startlineLongWrong : ChangeSpec := { name := "startlineLong", fn := fun _ => fun
  | [d1, d2] => { results := [.lit (.bool false)], args := [d1, d2] }
  | _ => none }
def StartlineLongWrongFalsely : Prop := startlineLongRow.holds Try.pinned (OpenSpec.ofChange startlineLongWrong)

/- THE SECOND FORM. 'bulk': how many values and letters a reading holds, each counted each time it is reached (what is shared counts as often as it is met; a slice's spare places count too). A statement '..UptoSaid' is the law's where the arguments, and the package variables that the reading takes, are together of bulk at most 1048576: NARROWER than '..Said'. Prove '..Said' where nothing that the law and all that it calls make is longer than what came in: it says more and counts as full. Else prove '..UptoSaid'. A law counts once. -/
mutual
def uptoBulk {H : Type} : DataW H → Nat
  | .lit (.string bytes) => bytes.length + 1
  | .lit _ => 1
  | .nil => 1
  | .ptr d => uptoBulk d + 1
  | .slice elems spare => uptoBulkAll elems + uptoBulkAll spare + 1
  | .agg parts => uptoBulkAll parts + 1
  | .iface _ d => uptoBulk d + 1
  | .map entries => uptoBulkEntries entries + 1
  | .held _ => 1
def uptoBulkAll {H : Type} : List (DataW H) → Nat
  | [] => 0
  | d :: r => uptoBulk d + uptoBulkAll r
def uptoBulkEntries {H : Type} : List (Lit × DataW H) → Nat
  | [] => 0
  | x :: r => uptoBulkEntry x + uptoBulkEntries r
def uptoBulkEntry {H : Type} : Lit × DataW H → Nat
  | (.string bytes, d) => bytes.length + uptoBulk d + 1
  | (_, d) => uptoBulk d + 1
 end
def uptoSmall : (H : Type) → List (DataW H) → Bool := fun _ ds => decide (uptoBulkAll ds ≤ 1048576)
def OpenSpec.upto (s : _root_.Go.ChangeSpec) : _root_.Go.OpenSpec := { _root_.Go.OpenSpec.ofChange s with cond := some uptoSmall }

/-- 'variantproxylaw02.StartlineRequests', WHERE WHAT IT READS IS OF BULK AT MOST 1048576: true; the input reads as it did. -/
def startlineRequestsUptoRow : OpenClaim := { program := "ytcpmacmcfedaaaa", sum := "e8711c979af4e232827364d44fb0a3aef019ee9178efbeebc70144c6b521aef4", func := "variantproxy/variantproxylaw02.StartlineRequests", spec := "startlineRequests", inPlace := ["internal/bytealg.IndexByteString", "internal/bytealg.IndexString"], named := ["internal/bytealg.MaxLen"], apart := false, narrowed := true }
def StartlineRequestsUptoSaid : Prop := startlineRequestsUptoRow.holds Try.pinned (OpenSpec.upto startlineRequestsSpec)

/-- 'variantproxylaw02.StartlineStatuses', WHERE WHAT IT READS IS OF BULK AT MOST 1048576: true; the input reads as it did. -/
def startlineStatusesUptoRow : OpenClaim := { program := "ytcpmacmcfedaaaa", sum := "e8711c979af4e232827364d44fb0a3aef019ee9178efbeebc70144c6b521aef4", func := "variantproxy/variantproxylaw02.StartlineStatuses", spec := "startlineStatuses", inPlace := ["internal/bytealg.IndexByteString", "internal/bytealg.IndexString"], named := ["internal/bytealg.MaxLen"], apart := false, narrowed := true }
def StartlineStatusesUptoSaid : Prop := startlineStatusesUptoRow.holds Try.pinned (OpenSpec.upto startlineStatusesSpec)

/-- 'variantproxylaw02.StartlineFormats', WHERE WHAT IT READS IS OF BULK AT MOST 1048576: true; the input reads as it did. -/
def startlineFormatsUptoRow : OpenClaim := { program := "ytcpmacmcfedaaaa", sum := "e8711c979af4e232827364d44fb0a3aef019ee9178efbeebc70144c6b521aef4", func := "variantproxy/variantproxylaw02.StartlineFormats", spec := "startlineFormats", inPlace := ["internal/bytealg.IndexByteString", "internal/bytealg.IndexString"], named := ["internal/bytealg.MaxLen"], apart := false, narrowed := true }
def StartlineFormatsUptoSaid : Prop := startlineFormatsUptoRow.holds Try.pinned (OpenSpec.upto startlineFormatsSpec)

/-- 'variantproxylaw02.StartlineBack', WHERE WHAT IT READS IS OF BULK AT MOST 1048576: true; the input reads as it did. -/
def startlineBackUptoRow : OpenClaim := { program := "ytcpmacmcfedaaaa", sum := "e8711c979af4e232827364d44fb0a3aef019ee9178efbeebc70144c6b521aef4", func := "variantproxy/variantproxylaw02.StartlineBack", spec := "startlineBack", inPlace := ["internal/bytealg.IndexByteString", "internal/bytealg.IndexString"], named := ["internal/bytealg.MaxLen"], apart := false, narrowed := true }
def StartlineBackUptoSaid : Prop := startlineBackUptoRow.holds Try.pinned (OpenSpec.upto startlineBackSpec)

/-- 'variantproxylaw02.StartlineLong', WHERE WHAT IT READS IS OF BULK AT MOST 1048576: true; the input reads as it did. -/
def startlineLongUptoRow : OpenClaim := { program := "ytcpmacmcfedaaaa", sum := "e8711c979af4e232827364d44fb0a3aef019ee9178efbeebc70144c6b521aef4", func := "variantproxy/variantproxylaw02.StartlineLong", spec := "startlineLong", inPlace := ["internal/bytealg.IndexByteString", "internal/bytealg.IndexString"], named := ["internal/bytealg.MaxLen"], apart := false, narrowed := true }
def StartlineLongUptoSaid : Prop := startlineLongUptoRow.holds Try.pinned (OpenSpec.upto startlineLongSpec)

end Rows
end Go.Proofs.Ytcpmacmcfedaaaa
