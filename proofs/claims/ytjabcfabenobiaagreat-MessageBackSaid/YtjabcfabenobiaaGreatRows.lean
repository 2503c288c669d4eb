/-
  No cell of these rows narrows 'for every input' (looked for: loops, veiled, ifaces, maps, wideKeys, modest, calm, conditions, laid).
  DERIVED. THE GIVEN ROWS OF THIS SEAT. 6 by the template 'for every input the law returns true; each argument reads behind the call as it read before'; 0 by the template 'total and deterministic' (their statements: YtjabcfabenobiaaGreatTotals.lean).
  GIVEN WITH THE SEED: the statements are not yours to turn. If you find one false, say at which input.
  Laid BY PROGRAM, IN A SANDBOX (cutbox-rows.mjs): the forced cells as the released guide's own fill.sh prints them over the translation 727bb33db843d098… (all of the seat's roots in one cut). By AI agents, Wed Nov 11 2026. No macro, syntax, notation, axiom, sorry.
-/
import Derived.Test.YtjabcfabenobiaaGreatChecked
import GoSem.Claim
import GoSem.ClaimJoined
import GoSem.ClaimMapViews
import Derived.JoinedTies
import Derived.KernelRfl
namespace Go.Proofs.YtjabcfabenobiaaGreat
/- THE CELL 'sum', in the pinned program and in every row, IS THE sha256 OF THE DUMP (.gsa) THAT YtjabcfabenobiaaGreatProg.lean LOADS. Nothing in Lean hashes anything: it is a label: what it is worth is what the hold of that sum in a sandbox is worth. -/
noncomputable def Tryz.pinned : Pinned := { name := "ytjabcfabenobiaagreat", sum := "727bb33db843d0988902db4b4ab7669d82c8bd48e61c2bb99e6588daeb1dbcb0", checked := Tryz.checked }
namespace Rows
def none {H : Type} : Left H := { results := [], args := [] }

/-- 'variantproxylaw06.MessageRequests': WHATEVER THE INPUT: true; the input reads as it did. -/
def messageRequestsSpec : ChangeSpec := { name := "messageRequests", fn := fun _ => fun
  | [d] => { results := [.lit (.bool true)], args := [d] }
  | _ => none }
def messageRequestsRow : OpenClaim := { program := "ytjabcfabenobiaagreat", sum := "727bb33db843d0988902db4b4ab7669d82c8bd48e61c2bb99e6588daeb1dbcb0", func := "variantproxy/variantproxylaw06.MessageRequests", spec := "messageRequests", inPlace := ["internal/bytealg.IndexByteString", "internal/bytealg.IndexString"], unfollowed := true, recurses := true, named := ["internal/bytealg.MaxLen"], apart := false }
def MessageRequestsSaid : Prop := messageRequestsRow.holds Tryz.pinned (OpenSpec.ofChange messageRequestsSpec)

/-- ITS FALSE NEIGHBOUR: 'it returns false'. Refute it at one input. -/
def messageRequestsWrong : ChangeSpec := { name := "messageRequests", fn := fun _ => fun
  | [d] => { results := [.lit (.bool false)], args := [d] }
  | _ => none }
def MessageRequestsWrongFalsely : Prop := messageRequestsRow.holds Tryz.pinned (OpenSpec.ofChange messageRequestsWrong)

/-- 'variantproxylaw06.MessageResponses': WHATEVER THE INPUT: true; the input reads as it did. -/
def messageResponsesSpec : ChangeSpec := { name := "messageResponses", fn := fun _ => fun
  | [d1, d2, d3] => { results := [.lit (.bool true)], args := [d1, d2, d3] }
  | _ => none }
def messageResponsesRow : OpenClaim := { program := "ytjabcfabenobiaagreat", sum := "727bb33db843d0988902db4b4ab7669d82c8bd48e61c2bb99e6588daeb1dbcb0", func := "variantproxy/variantproxylaw06.MessageResponses", spec := "messageResponses", inPlace := ["internal/bytealg.IndexByteString", "internal/bytealg.IndexString"], unfollowed := true, recurses := true, named := ["internal/bytealg.MaxLen"], apart := false }
def MessageResponsesSaid : Prop := messageResponsesRow.holds Tryz.pinned (OpenSpec.ofChange messageResponsesSpec)

/-- ITS FALSE NEIGHBOUR: 'it returns false'. Refute it at one input. -/
def messageResponsesWrong : ChangeSpec := { name := "messageResponses", fn := fun _ => fun
  | [d1, d2, d3] => { results := [.lit (.bool false)], args := [d1, d2, d3] }
  | _ => none }
def MessageResponsesWrongFalsely : Prop := messageResponsesRow.holds Tryz.pinned (OpenSpec.ofChange messageResponsesWrong)

/-- 'variantproxylaw06.MessageFormats': WHATEVER THE INPUT: true; the input reads as it did. -/
def messageFormatsSpec : ChangeSpec := { name := "messageFormats", fn := fun _ => fun
  | [d1, d2, d3] => { results := [.lit (.bool true)], args := [d1, d2, d3] }
  | _ => none }
def messageFormatsRow : OpenClaim := { program := "ytjabcfabenobiaagreat", sum := "727bb33db843d0988902db4b4ab7669d82c8bd48e61c2bb99e6588daeb1dbcb0", func := "variantproxy/variantproxylaw06.MessageFormats", spec := "messageFormats", inPlace := ["internal/bytealg.IndexByteString", "internal/bytealg.IndexString"], unfollowed := true, recurses := true, named := ["internal/bytealg.MaxLen"], apart := false }
def MessageFormatsSaid : Prop := messageFormatsRow.holds Tryz.pinned (OpenSpec.ofChange messageFormatsSpec)

/-- ITS FALSE NEIGHBOUR: 'it returns false'. Refute it at one input. -/
def messageFormatsWrong : ChangeSpec := { name := "messageFormats", fn := fun _ => fun
  | [d1, d2, d3] => { results := [.lit (.bool false)], args := [d1, d2, d3] }
  | _ => none }
def MessageFormatsWrongFalsely : Prop := messageFormatsRow.holds Tryz.pinned (OpenSpec.ofChange messageFormatsWrong)

/-- 'variantproxylaw06.MessageBack': WHATEVER THE INPUT: true; the input reads as it did. -/
def messageBackSpec : ChangeSpec := { name := "messageBack", fn := fun _ => fun
  | [d1, d2] => { results := [.lit (.bool true)], args := [d1, d2] }
  | _ => none }
def messageBackRow : OpenClaim := { program := "ytjabcfabenobiaagreat", sum := "727bb33db843d0988902db4b4ab7669d82c8bd48e61c2bb99e6588daeb1dbcb0", func := "variantproxy/variantproxylaw06.MessageBack", spec := "messageBack", inPlace := ["internal/bytealg.IndexByteString", "internal/bytealg.IndexString"], unfollowed := true, recurses := true, named := ["internal/bytealg.MaxLen"], apart := false }
def MessageBackSaid : Prop := messageBackRow.holds Tryz.pinned (OpenSpec.ofChange messageBackSpec)

/-- ITS FALSE NEIGHBOUR: 'it returns false'. Refute it at one input. -/
def messageBackWrong : ChangeSpec := { name := "messageBack", fn := fun _ => fun
  | [d1, d2] => { results := [.lit (.bool false)], args := [d1, d2] }
  | _ => none }
def MessageBackWrongFalsely : Prop := messageBackRow.holds Tryz.pinned (OpenSpec.ofChange messageBackWrong)

/-- 'variantproxylaw06.MessageReplies': WHATEVER THE INPUT: true; the input reads as it did. -/
def messageRepliesSpec : ChangeSpec := { name := "messageReplies", fn := fun _ => fun
  | [d1, d2, d3, d4] => { results := [.lit (.bool true)], args := [d1, d2, d3, d4] }
  | _ => none }
def messageRepliesRow : OpenClaim := { program := "ytjabcfabenobiaagreat", sum := "727bb33db843d0988902db4b4ab7669d82c8bd48e61c2bb99e6588daeb1dbcb0", func := "variantproxy/variantproxylaw06.MessageReplies", spec := "messageReplies", inPlace := ["internal/bytealg.IndexByteString", "internal/bytealg.IndexString"], unfollowed := true, recurses := true, named := ["internal/bytealg.MaxLen"], apart := false }
def MessageRepliesSaid : Prop := messageRepliesRow.holds Tryz.pinned (OpenSpec.ofChange messageRepliesSpec)

/-- ITS FALSE NEIGHBOUR: 'it returns false'. Refute it at one input. -/
def messageRepliesWrong : ChangeSpec := { name := "messageReplies", fn := fun _ => fun
  | [d1, d2, d3, d4] => { results := [.lit (.bool false)], args := [d1, d2, d3, d4] }
  | _ => none }
def MessageRepliesWrongFalsely : Prop := messageRepliesRow.holds Tryz.pinned (OpenSpec.ofChange messageRepliesWrong)

/-- 'variantproxylaw06.MessageShort': WHATEVER THE INPUT: true; the input reads as it did. -/
def messageShortSpec : ChangeSpec := { name := "messageShort", fn := fun _ => fun
  | [d1, d2] => { results := [.lit (.bool true)], args := [d1, d2] }
  | _ => none }
def messageShortRow : OpenClaim := { program := "ytjabcfabenobiaagreat", sum := "727bb33db843d0988902db4b4ab7669d82c8bd48e61c2bb99e6588daeb1dbcb0", func := "variantproxy/variantproxylaw06.MessageShort", spec := "messageShort", inPlace := ["internal/bytealg.IndexByteString", "internal/bytealg.IndexString"], unfollowed := true, recurses := true, named := ["internal/bytealg.MaxLen"], apart := false }
def MessageShortSaid : Prop := messageShortRow.holds Tryz.pinned (OpenSpec.ofChange messageShortSpec)

/-- ITS FALSE NEIGHBOUR: 'it returns false'. Refute it at one input. -/
def messageShortWrong : ChangeSpec := { name := "messageShort", fn := fun _ => fun
  | [d1, d2] => { results := [.lit (.bool false)], args := [d1, d2] }
  | _ => none }
def MessageShortWrongFalsely : Prop := messageShortRow.holds Tryz.pinned (OpenSpec.ofChange messageShortWrong)

/- THE SECOND FORM. 'bulk': how many values and letters a reading holds, each counted each time it is reached (what is shared counts as often as it is met; a slice's spare places count too). A statement '..UptoSaid' is the law's where the arguments, and the package variables that the reading takes, are together of bulk at most 1048576: NARROWER than '..Said'. Prove '..Said' where nothing that the law and all that it calls make is longer than what came in: it says more and counts as full. Else prove '..UptoSaid'. A law counts once. -/
mutual
def uptoBulk {H : Type} : DataW H → Nat
  | .lit (.string bytes) => bytes.length + 1
  | .lit _ => 1
  | .nil => 1
  | .ptr d => uptoBulk d + 1
  | .slice elems spare => uptoBulkAll elems + uptoBulkAll spare + 1
  | .agg parts => uptoBulkAll parts + 1
  | .iface _ d => uptoBulk d + 1
  | .map entries => uptoBulkEntries entries + 1
  | .held _ => 1
def uptoBulkAll {H : Type} : List (DataW H) → Nat
  | [] => 0
  | d :: r => uptoBulk d + uptoBulkAll r
def uptoBulkEntries {H : Type} : List (Lit × DataW H) → Nat
  | [] => 0
  | x :: r => uptoBulkEntry x + uptoBulkEntries r
def uptoBulkEntry {H : Type} : Lit × DataW H → Nat
  | (.string bytes, d) => bytes.length + uptoBulk d + 1
  | (_, d) => uptoBulk d + 1
 end
def uptoSmall : (H : Type) → List (DataW H) → Bool := fun _ ds => decide (uptoBulkAll ds ≤ 1048576)
def OpenSpec.upto (s : _root_.Go.ChangeSpec) : _root_.Go.OpenSpec := { _root_.Go.OpenSpec.ofChange s with cond := some uptoSmall }

/-- 'variantproxylaw06.MessageRequests', WHERE WHAT IT READS IS OF BULK AT MOST 1048576: true; the input reads as it did. -/
def messageRequestsUptoRow : OpenClaim := { program := "ytjabcfabenobiaagreat", sum := "727bb33db843d0988902db4b4ab7669d82c8bd48e61c2bb99e6588daeb1dbcb0", func := "variantproxy/variantproxylaw06.MessageRequests", spec := "messageRequests", inPlace := ["internal/bytealg.IndexByteString", "internal/bytealg.IndexString"], unfollowed := true, recurses := true, named := ["internal/bytealg.MaxLen"], apart := false, narrowed := true }
def MessageRequestsUptoSaid : Prop := messageRequestsUptoRow.holds Tryz.pinned (OpenSpec.upto messageRequestsSpec)

/-- 'variantproxylaw06.MessageResponses', WHERE WHAT IT READS IS OF BULK AT MOST 1048576: true; the input reads as it did. -/
def messageResponsesUptoRow : OpenClaim := { program := "ytjabcfabenobiaagreat", sum := "727bb33db843d0988902db4b4ab7669d82c8bd48e61c2bb99e6588daeb1dbcb0", func := "variantproxy/variantproxylaw06.MessageResponses", spec := "messageResponses", inPlace := ["internal/bytealg.IndexByteString", "internal/bytealg.IndexString"], unfollowed := true, recurses := true, named := ["internal/bytealg.MaxLen"], apart := false, narrowed := true }
def MessageResponsesUptoSaid : Prop := messageResponsesUptoRow.holds Tryz.pinned (OpenSpec.upto messageResponsesSpec)

/-- 'variantproxylaw06.MessageFormats', WHERE WHAT IT READS IS OF BULK AT MOST 1048576: true; the input reads as it did. -/
def messageFormatsUptoRow : OpenClaim := { program := "ytjabcfabenobiaagreat", sum := "727bb33db843d0988902db4b4ab7669d82c8bd48e61c2bb99e6588daeb1dbcb0", func := "variantproxy/variantproxylaw06.MessageFormats", spec := "messageFormats", inPlace := ["internal/bytealg.IndexByteString", "internal/bytealg.IndexString"], unfollowed := true, recurses := true, named := ["internal/bytealg.MaxLen"], apart := false, narrowed := true }
def MessageFormatsUptoSaid : Prop := messageFormatsUptoRow.holds Tryz.pinned (OpenSpec.upto messageFormatsSpec)

/-- 'variantproxylaw06.MessageBack', WHERE WHAT IT READS IS OF BULK AT MOST 1048576: true; the input reads as it did. -/
def messageBackUptoRow : OpenClaim := { program := "ytjabcfabenobiaagreat", sum := "727bb33db843d0988902db4b4ab7669d82c8bd48e61c2bb99e6588daeb1dbcb0", func := "variantproxy/variantproxylaw06.MessageBack", spec := "messageBack", inPlace := ["internal/bytealg.IndexByteString", "internal/bytealg.IndexString"], unfollowed := true, recurses := true, named := ["internal/bytealg.MaxLen"], apart := false, narrowed := true }
def MessageBackUptoSaid : Prop := messageBackUptoRow.holds Tryz.pinned (OpenSpec.upto messageBackSpec)

/-- 'variantproxylaw06.MessageReplies', WHERE WHAT IT READS IS OF BULK AT MOST 1048576: true; the input reads as it did. -/
def messageRepliesUptoRow : OpenClaim := { program := "ytjabcfabenobiaagreat", sum := "727bb33db843d0988902db4b4ab7669d82c8bd48e61c2bb99e6588daeb1dbcb0", func := "variantproxy/variantproxylaw06.MessageReplies", spec := "messageReplies", inPlace := ["internal/bytealg.IndexByteString", "internal/bytealg.IndexString"], unfollowed := true, recurses := true, named := ["internal/bytealg.MaxLen"], apart := false, narrowed := true }
def MessageRepliesUptoSaid : Prop := messageRepliesUptoRow.holds Tryz.pinned (OpenSpec.upto messageRepliesSpec)

/-- 'variantproxylaw06.MessageShort', WHERE WHAT IT READS IS OF BULK AT MOST 1048576: true; the input reads as it did. -/
def messageShortUptoRow : OpenClaim := { program := "ytjabcfabenobiaagreat", sum := "727bb33db843d0988902db4b4ab7669d82c8bd48e61c2bb99e6588daeb1dbcb0", func := "variantproxy/variantproxylaw06.MessageShort", spec := "messageShort", inPlace := ["internal/bytealg.IndexByteString", "internal/bytealg.IndexString"], unfollowed := true, recurses := true, named := ["internal/bytealg.MaxLen"], apart := false, narrowed := true }
def MessageShortUptoSaid : Prop := messageShortUptoRow.holds Tryz.pinned (OpenSpec.upto messageShortSpec)

end Rows
end Go.Proofs.YtjabcfabenobiaaGreat
