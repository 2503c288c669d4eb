/-
  No cell of these rows narrows 'for every input' (looked for: loops, veiled, ifaces, maps, wideKeys, modest, calm, conditions, laid).
  DERIVED. THE GIVEN ROWS OF THIS SEAT. 8 by the template 'for every input the law returns true; each argument reads behind the call as it read before'; 0 by the template 'total and deterministic' (their statements: YtfpeaakdjihajaaTotals.lean).
  GIVEN WITH THE SEED: the statements are not yours to turn. If you find one false, say at which input.
  Laid BY PROGRAM, IN A SANDBOX (cutbox-rows.mjs): the forced cells as the released guide's own fill.sh prints them over the translation 28b5bacb6830d39c… (all of the seat's roots in one cut). By AI agents, Wed Nov 11 2026. No macro, syntax, notation, axiom, sorry.
-/
import Derived.Test.YtfpeaakdjihajaaChecked
import GoSem.Claim
import GoSem.ClaimJoined
import GoSem.ClaimMapViews
import Derived.JoinedTies
import Derived.KernelRfl
namespace Go.Proofs.Ytfpeaakdjihajaa
/- THE CELL 'sum', in the pinned program and in every row, IS THE sha256 OF THE DUMP (.gsa) THAT YtfpeaakdjihajaaProg.lean LOADS. Nothing in Lean hashes anything: it is a label: what it is worth is what the hold of that sum in a sandbox is worth. -/
noncomputable def Try.pinned : Pinned := { name := "ytfpeaakdjihajaa", sum := "28b5bacb6830d39c386affceacf7a5032064fc8de77339880821d396cece6094", checked := Try.checked }
namespace Rows
def none {H : Type} : Left H := { results := [], args := [] }

/-- 'variantproxylaw07.ListSplits': WHATEVER THE INPUT: true; the input reads as it did. -/
def listSplitsSpec : ChangeSpec := { name := "listSplits", fn := fun _ => fun
  | [d1, d2] => { results := [.lit (.bool true)], args := [d1, d2] }
  | _ => none }
def listSplitsRow : OpenClaim := { program := "ytfpeaakdjihajaa", sum := "28b5bacb6830d39c386affceacf7a5032064fc8de77339880821d396cece6094", func := "variantproxy/variantproxylaw07.ListSplits", spec := "listSplits", inPlace := ["internal/abi.NoEscape", "internal/bytealg.MakeNoZero"], apart := false }
def ListSplitsSaid : Prop := listSplitsRow.holds Try.pinned (OpenSpec.ofChange listSplitsSpec)

/-- ITS FALSE NEIGHBOUR: 'it returns false'. Refute it at one input. -/
def listSplitsWrong : ChangeSpec := { name := "listSplits", fn := fun _ => fun
  | [d1, d2] => { results := [.lit (.bool false)], args := [d1, d2] }
  | _ => none }
def ListSplitsWrongFalsely : Prop := listSplitsRow.holds Try.pinned (OpenSpec.ofChange listSplitsWrong)

/-- 'variantproxylaw07.ListAll': WHATEVER THE INPUT: true; the input reads as it did. -/
def listAllSpec : ChangeSpec := { name := "listAll", fn := fun _ => fun
  | [d1, d2] => { results := [.lit (.bool true)], args := [d1, d2] }
  | _ => none }
def listAllRow : OpenClaim := { program := "ytfpeaakdjihajaa", sum := "28b5bacb6830d39c386affceacf7a5032064fc8de77339880821d396cece6094", func := "variantproxy/variantproxylaw07.ListAll", spec := "listAll", unfollowed := true, recurses := true, apart := false }
def ListAllSaid : Prop := listAllRow.holds Try.pinned (OpenSpec.ofChange listAllSpec)

/-- ITS FALSE NEIGHBOUR: 'it returns false'. Refute it at one input. -/
def listAllWrong : ChangeSpec := { name := "listAll", fn := fun _ => fun
  | [d1, d2] => { results := [.lit (.bool false)], args := [d1, d2] }
  | _ => none }
def ListAllWrongFalsely : Prop := listAllRow.holds Try.pinned (OpenSpec.ofChange listAllWrong)

/-- 'variantproxylaw07.ListBack': WHATEVER THE INPUT: true; the input reads as it did. -/
def listBackSpec : ChangeSpec := { name := "listBack", fn := fun _ => fun
  | [d] => { results := [.lit (.bool true)], args := [d] }
  | _ => none }
def listBackRow : OpenClaim := { program := "ytfpeaakdjihajaa", sum := "28b5bacb6830d39c386affceacf7a5032064fc8de77339880821d396cece6094", func := "variantproxy/variantproxylaw07.ListBack", spec := "listBack", inPlace := ["internal/abi.NoEscape", "internal/bytealg.MakeNoZero"], apart := false }
def ListBackSaid : Prop := listBackRow.holds Try.pinned (OpenSpec.ofChange listBackSpec)

/-- ITS FALSE NEIGHBOUR: 'it returns false'. Refute it at one input. -/
def listBackWrong : ChangeSpec := { name := "listBack", fn := fun _ => fun
  | [d] => { results := [.lit (.bool false)], args := [d] }
  | _ => none }
def ListBackWrongFalsely : Prop := listBackRow.holds Try.pinned (OpenSpec.ofChange listBackWrong)

/-- 'variantproxylaw07.ListLines': WHATEVER THE INPUT: true; the input reads as it did. -/
def listLinesSpec : ChangeSpec := { name := "listLines", fn := fun _ => fun
  | [d1, d2, d3] => { results := [.lit (.bool true)], args := [d1, d2, d3] }
  | _ => none }
def listLinesRow : OpenClaim := { program := "ytfpeaakdjihajaa", sum := "28b5bacb6830d39c386affceacf7a5032064fc8de77339880821d396cece6094", func := "variantproxy/variantproxylaw07.ListLines", spec := "listLines", unfollowed := true, recurses := true, apart := false }
def ListLinesSaid : Prop := listLinesRow.holds Try.pinned (OpenSpec.ofChange listLinesSpec)

/-- ITS FALSE NEIGHBOUR: 'it returns false'. Refute it at one input. -/
def listLinesWrong : ChangeSpec := { name := "listLines", fn := fun _ => fun
  | [d1, d2, d3] => { results := [.lit (.bool false)], args := [d1, d2, d3] }
  | _ => none }
def ListLinesWrongFalsely : Prop := listLinesRow.holds Try.pinned (OpenSpec.ofChange listLinesWrong)

/-- 'variantproxylaw09.ParamParses': WHATEVER THE INPUT: true; the input reads as it did. -/
def paramParsesSpec : ChangeSpec := { name := "paramParses", fn := fun _ => fun
  | [d] => { results := [.lit (.bool true)], args := [d] }
  | _ => none }
def paramParsesRow : OpenClaim := { program := "ytfpeaakdjihajaa", sum := "28b5bacb6830d39c386affceacf7a5032064fc8de77339880821d396cece6094", func := "variantproxy/variantproxylaw09.ParamParses", spec := "paramParses", inPlace := ["internal/bytealg.IndexByteString", "internal/bytealg.IndexString"], named := ["internal/bytealg.MaxLen"], apart := false }
def ParamParsesSaid : Prop := paramParsesRow.holds Try.pinned (OpenSpec.ofChange paramParsesSpec)

/-- ITS FALSE NEIGHBOUR: 'it returns false'. Refute it at one input. -/
def paramParsesWrong : ChangeSpec := { name := "paramParses", fn := fun _ => fun
  | [d] => { results := [.lit (.bool false)], args := [d] }
  | _ => none }
def ParamParsesWrongFalsely : Prop := paramParsesRow.holds Try.pinned (OpenSpec.ofChange paramParsesWrong)

/-- 'variantproxylaw09.ParamFormats': WHATEVER THE INPUT: true; the input reads as it did. -/
def paramFormatsSpec : ChangeSpec := { name := "paramFormats", fn := fun _ => fun
  | [d1, d2, d3] => { results := [.lit (.bool true)], args := [d1, d2, d3] }
  | _ => none }
def paramFormatsRow : OpenClaim := { program := "ytfpeaakdjihajaa", sum := "28b5bacb6830d39c386affceacf7a5032064fc8de77339880821d396cece6094", func := "variantproxy/variantproxylaw09.ParamFormats", spec := "paramFormats", inPlace := ["internal/abi.NoEscape", "internal/bytealg.IndexByteString", "internal/bytealg.IndexString"], named := ["internal/bytealg.MaxLen"], apart := false }
def ParamFormatsSaid : Prop := paramFormatsRow.holds Try.pinned (OpenSpec.ofChange paramFormatsSpec)

/-- ITS FALSE NEIGHBOUR: 'it returns false'. Refute it at one input. -/
def paramFormatsWrong : ChangeSpec := { name := "paramFormats", fn := fun _ => fun
  | [d1, d2, d3] => { results := [.lit (.bool false)], args := [d1, d2, d3] }
  | _ => none }
def ParamFormatsWrongFalsely : Prop := paramFormatsRow.holds Try.pinned (OpenSpec.ofChange paramFormatsWrong)

/-- 'variantproxylaw09.ParamBack': WHATEVER THE INPUT: true; the input reads as it did. -/
def paramBackSpec : ChangeSpec := { name := "paramBack", fn := fun _ => fun
  | [d1, d2] => { results := [.lit (.bool true)], args := [d1, d2] }
  | _ => none }
def paramBackRow : OpenClaim := { program := "ytfpeaakdjihajaa", sum := "28b5bacb6830d39c386affceacf7a5032064fc8de77339880821d396cece6094", func := "variantproxy/variantproxylaw09.ParamBack", spec := "paramBack", inPlace := ["internal/abi.NoEscape", "internal/bytealg.IndexByteString", "internal/bytealg.IndexString"], named := ["internal/bytealg.MaxLen"], apart := false }
def ParamBackSaid : Prop := paramBackRow.holds Try.pinned (OpenSpec.ofChange paramBackSpec)

/-- ITS FALSE NEIGHBOUR: 'it returns false'. Refute it at one input. -/
def paramBackWrong : ChangeSpec := { name := "paramBack", fn := fun _ => fun
  | [d1, d2] => { results := [.lit (.bool false)], args := [d1, d2] }
  | _ => none }
def ParamBackWrongFalsely : Prop := paramBackRow.holds Try.pinned (OpenSpec.ofChange paramBackWrong)

/-- 'variantproxylaw09.ParamBlanks': WHATEVER THE INPUT: true; the input reads as it did. -/
def paramBlanksSpec : ChangeSpec := { name := "paramBlanks", fn := fun _ => fun
  | [d1, d2, d3] => { results := [.lit (.bool true)], args := [d1, d2, d3] }
  | _ => none }
def paramBlanksRow : OpenClaim := { program := "ytfpeaakdjihajaa", sum := "28b5bacb6830d39c386affceacf7a5032064fc8de77339880821d396cece6094", func := "variantproxy/variantproxylaw09.ParamBlanks", spec := "paramBlanks", inPlace := ["internal/bytealg.IndexByteString", "internal/bytealg.IndexString"], named := ["internal/bytealg.MaxLen"], apart := false }
def ParamBlanksSaid : Prop := paramBlanksRow.holds Try.pinned (OpenSpec.ofChange paramBlanksSpec)

/-- ITS FALSE NEIGHBOUR: 'it returns false'. Refute it at one input. -/
def paramBlanksWrong : ChangeSpec := { name := "paramBlanks", fn := fun _ => fun
  | [d1, d2, d3] => { results := [.lit (.bool false)], args := [d1, d2, d3] }
  | _ => none }
def ParamBlanksWrongFalsely : Prop := paramBlanksRow.holds Try.pinned (OpenSpec.ofChange paramBlanksWrong)

/- THE SECOND FORM. 'bulk': how many values and letters a reading holds, each counted each time it is reached (what is shared counts as often as it is met; a slice's spare places count too). A statement '..UptoSaid' is the law's where the arguments, and the package variables that the reading takes, are together of bulk at most 1048576: NARROWER than '..Said'. Prove '..Said' where nothing that the law and all that it calls make is longer than what came in: it says more and counts as full. Else prove '..UptoSaid'. A law counts once. -/
mutual
def uptoBulk {H : Type} : DataW H → Nat
  | .lit (.string bytes) => bytes.length + 1
  | .lit _ => 1
  | .nil => 1
  | .ptr d => uptoBulk d + 1
  | .slice elems spare => uptoBulkAll elems + uptoBulkAll spare + 1
  | .agg parts => uptoBulkAll parts + 1
  | .iface _ d => uptoBulk d + 1
  | .map entries => uptoBulkEntries entries + 1
  | .held _ => 1
def uptoBulkAll {H : Type} : List (DataW H) → Nat
  | [] => 0
  | d :: r => uptoBulk d + uptoBulkAll r
def uptoBulkEntries {H : Type} : List (Lit × DataW H) → Nat
  | [] => 0
  | x :: r => uptoBulkEntry x + uptoBulkEntries r
def uptoBulkEntry {H : Type} : Lit × DataW H → Nat
  | (.string bytes, d) => bytes.length + uptoBulk d + 1
  | (_, d) => uptoBulk d + 1
 end
def uptoSmall : (H : Type) → List (DataW H) → Bool := fun _ ds => decide (uptoBulkAll ds ≤ 1048576)
def OpenSpec.upto (s : _root_.Go.ChangeSpec) : _root_.Go.OpenSpec := { _root_.Go.OpenSpec.ofChange s with cond := some uptoSmall }

/-- 'variantproxylaw07.ListSplits', WHERE WHAT IT READS IS OF BULK AT MOST 1048576: true; the input reads as it did. -/
def listSplitsUptoRow : OpenClaim := { program := "ytfpeaakdjihajaa", sum := "28b5bacb6830d39c386affceacf7a5032064fc8de77339880821d396cece6094", func := "variantproxy/variantproxylaw07.ListSplits", spec := "listSplits", inPlace := ["internal/abi.NoEscape", "internal/bytealg.MakeNoZero"], apart := false, narrowed := true }
def ListSplitsUptoSaid : Prop := listSplitsUptoRow.holds Try.pinned (OpenSpec.upto listSplitsSpec)

/-- 'variantproxylaw07.ListAll', WHERE WHAT IT READS IS OF BULK AT MOST 1048576: true; the input reads as it did. -/
def listAllUptoRow : OpenClaim := { program := "ytfpeaakdjihajaa", sum := "28b5bacb6830d39c386affceacf7a5032064fc8de77339880821d396cece6094", func := "variantproxy/variantproxylaw07.ListAll", spec := "listAll", unfollowed := true, recurses := true, apart := false, narrowed := true }
def ListAllUptoSaid : Prop := listAllUptoRow.holds Try.pinned (OpenSpec.upto listAllSpec)

/-- 'variantproxylaw07.ListBack', WHERE WHAT IT READS IS OF BULK AT MOST 1048576: true; the input reads as it did. -/
def listBackUptoRow : OpenClaim := { program := "ytfpeaakdjihajaa", sum := "28b5bacb6830d39c386affceacf7a5032064fc8de77339880821d396cece6094", func := "variantproxy/variantproxylaw07.ListBack", spec := "listBack", inPlace := ["internal/abi.NoEscape", "internal/bytealg.MakeNoZero"], apart := false, narrowed := true }
def ListBackUptoSaid : Prop := listBackUptoRow.holds Try.pinned (OpenSpec.upto listBackSpec)

/-- 'variantproxylaw07.ListLines', WHERE WHAT IT READS IS OF BULK AT MOST 1048576: true; the input reads as it did. -/
def listLinesUptoRow : OpenClaim := { program := "ytfpeaakdjihajaa", sum := "28b5bacb6830d39c386affceacf7a5032064fc8de77339880821d396cece6094", func := "variantproxy/variantproxylaw07.ListLines", spec := "listLines", unfollowed := true, recurses := true, apart := false, narrowed := true }
def ListLinesUptoSaid : Prop := listLinesUptoRow.holds Try.pinned (OpenSpec.upto listLinesSpec)

/-- 'variantproxylaw09.ParamParses', WHERE WHAT IT READS IS OF BULK AT MOST 1048576: true; the input reads as it did. -/
def paramParsesUptoRow : OpenClaim := { program := "ytfpeaakdjihajaa", sum := "28b5bacb6830d39c386affceacf7a5032064fc8de77339880821d396cece6094", func := "variantproxy/variantproxylaw09.ParamParses", spec := "paramParses", inPlace := ["internal/bytealg.IndexByteString", "internal/bytealg.IndexString"], named := ["internal/bytealg.MaxLen"], apart := false, narrowed := true }
def ParamParsesUptoSaid : Prop := paramParsesUptoRow.holds Try.pinned (OpenSpec.upto paramParsesSpec)

/-- 'variantproxylaw09.ParamFormats', WHERE WHAT IT READS IS OF BULK AT MOST 1048576: true; the input reads as it did. -/
def paramFormatsUptoRow : OpenClaim := { program := "ytfpeaakdjihajaa", sum := "28b5bacb6830d39c386affceacf7a5032064fc8de77339880821d396cece6094", func := "variantproxy/variantproxylaw09.ParamFormats", spec := "paramFormats", inPlace := ["internal/abi.NoEscape", "internal/bytealg.IndexByteString", "internal/bytealg.IndexString"], named := ["internal/bytealg.MaxLen"], apart := false, narrowed := true }
def ParamFormatsUptoSaid : Prop := paramFormatsUptoRow.holds Try.pinned (OpenSpec.upto paramFormatsSpec)

/-- 'variantproxylaw09.ParamBack', WHERE WHAT IT READS IS OF BULK AT MOST 1048576: true; the input reads as it did. -/
def paramBackUptoRow : OpenClaim := { program := "ytfpeaakdjihajaa", sum := "28b5bacb6830d39c386affceacf7a5032064fc8de77339880821d396cece6094", func := "variantproxy/variantproxylaw09.ParamBack", spec := "paramBack", inPlace := ["internal/abi.NoEscape", "internal/bytealg.IndexByteString", "internal/bytealg.IndexString"], named := ["internal/bytealg.MaxLen"], apart := false, narrowed := true }
def ParamBackUptoSaid : Prop := paramBackUptoRow.holds Try.pinned (OpenSpec.upto paramBackSpec)

/-- 'variantproxylaw09.ParamBlanks', WHERE WHAT IT READS IS OF BULK AT MOST 1048576: true; the input reads as it did. -/
def paramBlanksUptoRow : OpenClaim := { program := "ytfpeaakdjihajaa", sum := "28b5bacb6830d39c386affceacf7a5032064fc8de77339880821d396cece6094", func := "variantproxy/variantproxylaw09.ParamBlanks", spec := "paramBlanks", inPlace := ["internal/bytealg.IndexByteString", "internal/bytealg.IndexString"], named := ["internal/bytealg.MaxLen"], apart := false, narrowed := true }
def ParamBlanksUptoSaid : Prop := paramBlanksUptoRow.holds Try.pinned (OpenSpec.upto paramBlanksSpec)

end Rows
end Go.Proofs.Ytfpeaakdjihajaa
