/-
  No cell of these rows narrows 'for every input' (looked for: loops, veiled, ifaces, maps, wideKeys, modest, calm, conditions, laid).
  DERIVED. THE GIVEN ROWS OF THIS SEAT. 4 by the template 'for every input the law returns true; each argument reads behind the call as it read before'; 0 by the template 'total and deterministic' (their statements: YtkalddhokoldgaaTotals.lean).
  GIVEN WITH THE SEED: the statements are not yours to turn. If you find one false, say at which input.
  Laid BY PROGRAM, IN A SANDBOX (cutbox-rows.mjs): the forced cells as the released guide's own fill.sh prints them over the translation 7d2d485770d79526… (all of the seat's roots in one cut). By AI agents, Wed Nov 11 2026. No macro, syntax, notation, axiom, sorry.
-/
import Derived.Test.YtkalddhokoldgaaChecked
import GoSem.Claim
import GoSem.ClaimJoined
import GoSem.ClaimMapViews
import Derived.JoinedTies
import Derived.KernelRfl
namespace Go.Proofs.Ytkalddhokoldgaa
/- THE CELL 'sum', in the pinned program and in every row, IS THE sha256 OF THE DUMP (.gsa) THAT YtkalddhokoldgaaProg.lean LOADS. Nothing in Lean hashes anything: it is a label: what it is worth is what the hold of that sum in a sandbox is worth. -/
noncomputable def Try.pinned : Pinned := { name := "ytkalddhokoldgaa", sum := "7d2d485770d795261c66d92f960c7a1ae528aae15cd4b587593f8fb2987ff6ec", checked := Try.checked }
namespace Rows
def none {H : Type} : Left H := { results := [], args := [] }

/-- 'variantproxylaw10.MediatypeParses': WHATEVER THE INPUT: true; the input reads as it did. -/
def mediatypeParsesSpec : ChangeSpec := { name := "mediatypeParses", fn := fun _ => fun
  | [d] => { results := [.lit (.bool true)], args := [d] }
  | _ => none }
def mediatypeParsesRow : OpenClaim := { program := "ytkalddhokoldgaa", sum := "7d2d485770d795261c66d92f960c7a1ae528aae15cd4b587593f8fb2987ff6ec", func := "variantproxy/variantproxylaw10.MediatypeParses", spec := "mediatypeParses", inPlace := ["internal/bytealg.IndexByteString", "internal/bytealg.IndexString"], named := ["internal/bytealg.MaxLen"], plainKeys := false, apart := false }
def MediatypeParsesSaid : Prop := mediatypeParsesRow.holds Try.pinned (OpenSpec.ofChange mediatypeParsesSpec)

/-- ITS FALSE NEIGHBOUR: 'it returns false'. Refute it at one input. -/
def mediatypeParsesWrong : ChangeSpec := { name := "mediatypeParses", fn := fun _ => fun
  | [d] => { results := [.lit (.bool false)], args := [d] }
  | _ => none }
def MediatypeParsesWrongFalsely : Prop := mediatypeParsesRow.holds Try.pinned (OpenSpec.ofChange mediatypeParsesWrong)

/-- 'variantproxylaw10.MediatypeMatches': WHATEVER THE INPUT: true; the input reads as it did. -/
def mediatypeMatchesSpec : ChangeSpec := { name := "mediatypeMatches", fn := fun _ => fun
  | [d1, d2] => { results := [.lit (.bool true)], args := [d1, d2] }
  | _ => none }
def mediatypeMatchesRow : OpenClaim := { program := "ytkalddhokoldgaa", sum := "7d2d485770d795261c66d92f960c7a1ae528aae15cd4b587593f8fb2987ff6ec", func := "variantproxy/variantproxylaw10.MediatypeMatches", spec := "mediatypeMatches", inPlace := ["internal/abi.NoEscape", "internal/bytealg.IndexByteString", "internal/bytealg.IndexString"], named := ["internal/bytealg.MaxLen"], plainKeys := false, apart := false }
def MediatypeMatchesSaid : Prop := mediatypeMatchesRow.holds Try.pinned (OpenSpec.ofChange mediatypeMatchesSpec)

/-- ITS FALSE NEIGHBOUR: 'it returns false'. Refute it at one input. -/
def mediatypeMatchesWrong : ChangeSpec := { name := "mediatypeMatches", fn := fun _ => fun
  | [d1, d2] => { results := [.lit (.bool false)], args := [d1, d2] }
  | _ => none }
def MediatypeMatchesWrongFalsely : Prop := mediatypeMatchesRow.holds Try.pinned (OpenSpec.ofChange mediatypeMatchesWrong)

/-- 'variantproxylaw10.MediatypeBack': WHATEVER THE INPUT: true; the input reads as it did. -/
def mediatypeBackSpec : ChangeSpec := { name := "mediatypeBack", fn := fun _ => fun
  | [d] => { results := [.lit (.bool true)], args := [d] }
  | _ => none }
def mediatypeBackRow : OpenClaim := { program := "ytkalddhokoldgaa", sum := "7d2d485770d795261c66d92f960c7a1ae528aae15cd4b587593f8fb2987ff6ec", func := "variantproxy/variantproxylaw10.MediatypeBack", spec := "mediatypeBack", inPlace := ["internal/bytealg.IndexByteString", "internal/bytealg.IndexString", "internal/abi.NoEscape"], named := ["internal/bytealg.MaxLen"], plainKeys := false, apart := false }
def MediatypeBackSaid : Prop := mediatypeBackRow.holds Try.pinned (OpenSpec.ofChange mediatypeBackSpec)

/-- ITS FALSE NEIGHBOUR: 'it returns false'. Refute it at one input. -/
def mediatypeBackWrong : ChangeSpec := { name := "mediatypeBack", fn := fun _ => fun
  | [d] => { results := [.lit (.bool false)], args := [d] }
  | _ => none }
def MediatypeBackWrongFalsely : Prop := mediatypeBackRow.holds Try.pinned (OpenSpec.ofChange mediatypeBackWrong)

/-- 'variantproxylaw10.MediatypeItself': WHATEVER THE INPUT: true; the input reads as it did. -/
def mediatypeItselfSpec : ChangeSpec := { name := "mediatypeItself", fn := fun _ => fun
  | [d1, d2] => { results := [.lit (.bool true)], args := [d1, d2] }
  | _ => none }
def mediatypeItselfRow : OpenClaim := { program := "ytkalddhokoldgaa", sum := "7d2d485770d795261c66d92f960c7a1ae528aae15cd4b587593f8fb2987ff6ec", func := "variantproxy/variantproxylaw10.MediatypeItself", spec := "mediatypeItself", inPlace := ["internal/bytealg.IndexByteString", "internal/bytealg.IndexString"], named := ["internal/bytealg.MaxLen"], plainKeys := false, apart := false }
def MediatypeItselfSaid : Prop := mediatypeItselfRow.holds Try.pinned (OpenSpec.ofChange mediatypeItselfSpec)

/-- ITS FALSE NEIGHBOUR: 'it returns false'. Refute it at one input. -/
def mediatypeItselfWrong : ChangeSpec := { name := "mediatypeItself", fn := fun _ => fun
  | [d1, d2] => { results := [.lit (.bool false)], args := [d1, d2] }
  | _ => none }
def MediatypeItselfWrongFalsely : Prop := mediatypeItselfRow.holds Try.pinned (OpenSpec.ofChange mediatypeItselfWrong)

/- THE SECOND FORM. 'bulk': how many values and letters a reading holds, each counted each time it is reached (what is shared counts as often as it is met; a slice's spare places count too). A statement '..UptoSaid' is the law's where the arguments, and the package variables that the reading takes, are together of bulk at most 1048576: NARROWER than '..Said'. Prove '..Said' where nothing that the law and all that it calls make is longer than what came in: it says more and counts as full. Else prove '..UptoSaid'. A law counts once. -/
mutual
def uptoBulk {H : Type} : DataW H → Nat
  | .lit (.string bytes) => bytes.length + 1
  | .lit _ => 1
  | .nil => 1
  | .ptr d => uptoBulk d + 1
  | .slice elems spare => uptoBulkAll elems + uptoBulkAll spare + 1
  | .agg parts => uptoBulkAll parts + 1
  | .iface _ d => uptoBulk d + 1
  | .map entries => uptoBulkEntries entries + 1
  | .held _ => 1
def uptoBulkAll {H : Type} : List (DataW H) → Nat
  | [] => 0
  | d :: r => uptoBulk d + uptoBulkAll r
def uptoBulkEntries {H : Type} : List (Lit × DataW H) → Nat
  | [] => 0
  | x :: r => uptoBulkEntry x + uptoBulkEntries r
def uptoBulkEntry {H : Type} : Lit × DataW H → Nat
  | (.string bytes, d) => bytes.length + uptoBulk d + 1
  | (_, d) => uptoBulk d + 1
 end
def uptoSmall : (H : Type) → List (DataW H) → Bool := fun _ ds => decide (uptoBulkAll ds ≤ 1048576)
def OpenSpec.upto (s : _root_.Go.ChangeSpec) : _root_.Go.OpenSpec := { _root_.Go.OpenSpec.ofChange s with cond := some uptoSmall }

/-- 'variantproxylaw10.MediatypeParses', WHERE WHAT IT READS IS OF BULK AT MOST 1048576: true; the input reads as it did. -/
def mediatypeParsesUptoRow : OpenClaim := { program := "ytkalddhokoldgaa", sum := "7d2d485770d795261c66d92f960c7a1ae528aae15cd4b587593f8fb2987ff6ec", func := "variantproxy/variantproxylaw10.MediatypeParses", spec := "mediatypeParses", inPlace := ["internal/bytealg.IndexByteString", "internal/bytealg.IndexString"], named := ["internal/bytealg.MaxLen"], plainKeys := false, apart := false, narrowed := true }
def MediatypeParsesUptoSaid : Prop := mediatypeParsesUptoRow.holds Try.pinned (OpenSpec.upto mediatypeParsesSpec)

/-- 'variantproxylaw10.MediatypeMatches', WHERE WHAT IT READS IS OF BULK AT MOST 1048576: true; the input reads as it did. -/
def mediatypeMatchesUptoRow : OpenClaim := { program := "ytkalddhokoldgaa", sum := "7d2d485770d795261c66d92f960c7a1ae528aae15cd4b587593f8fb2987ff6ec", func := "variantproxy/variantproxylaw10.MediatypeMatches", spec := "mediatypeMatches", inPlace := ["internal/abi.NoEscape", "internal/bytealg.IndexByteString", "internal/bytealg.IndexString"], named := ["internal/bytealg.MaxLen"], plainKeys := false, apart := false, narrowed := true }
def MediatypeMatchesUptoSaid : Prop := mediatypeMatchesUptoRow.holds Try.pinned (OpenSpec.upto mediatypeMatchesSpec)

/-- 'variantproxylaw10.MediatypeBack', WHERE WHAT IT READS IS OF BULK AT MOST 1048576: true; the input reads as it did. -/
def mediatypeBackUptoRow : OpenClaim := { program := "ytkalddhokoldgaa", sum := "7d2d485770d795261c66d92f960c7a1ae528aae15cd4b587593f8fb2987ff6ec", func := "variantproxy/variantproxylaw10.MediatypeBack", spec := "mediatypeBack", inPlace := ["internal/bytealg.IndexByteString", "internal/bytealg.IndexString", "internal/abi.NoEscape"], named := ["internal/bytealg.MaxLen"], plainKeys := false, apart := false, narrowed := true }
def MediatypeBackUptoSaid : Prop := mediatypeBackUptoRow.holds Try.pinned (OpenSpec.upto mediatypeBackSpec)

/-- 'variantproxylaw10.MediatypeItself', WHERE WHAT IT READS IS OF BULK AT MOST 1048576: true; the input reads as it did. -/
def mediatypeItselfUptoRow : OpenClaim := { program := "ytkalddhokoldgaa", sum := "7d2d485770d795261c66d92f960c7a1ae528aae15cd4b587593f8fb2987ff6ec", func := "variantproxy/variantproxylaw10.MediatypeItself", spec := "mediatypeItself", inPlace := ["internal/bytealg.IndexByteString", "internal/bytealg.IndexString"], named := ["internal/bytealg.MaxLen"], plainKeys := false, apart := false, narrowed := true }
def MediatypeItselfUptoSaid : Prop := mediatypeItselfUptoRow.holds Try.pinned (OpenSpec.upto mediatypeItselfSpec)

end Rows
end Go.Proofs.Ytkalddhokoldgaa
