/-
  No cell of these rows narrows 'for every input' (looked for: loops, veiled, ifaces, maps, wideKeys, modest, calm, conditions, laid).
  DERIVED. THE GIVEN ROWS OF THIS SEAT. 7 by the template 'for every input the law returns true; each argument reads behind the call as it read before'; 0 by the template 'total and deterministic' (their statements: YtilodlmjamaiiaaTotals.lean).
  GIVEN WITH THE SEED: the statements are not yours to turn. If you find one false, say at which input.
  Laid BY PROGRAM, IN A SANDBOX (cutbox-rows.mjs): the forced cells as the released guide's own fill.sh prints them over the translation 0f15e1ef298a2c51… (all of the seat's roots in one cut). By AI agents, Wed Nov 11 2026. No macro, syntax, notation, axiom, sorry.
-/
import Derived.Test.YtilodlmjamaiiaaChecked
import GoSem.Claim
import GoSem.ClaimJoined
import GoSem.ClaimMapViews
import Derived.JoinedTies
import Derived.KernelRfl
namespace Go.Proofs.Ytilodlmjamaiiaa
/- THE CELL 'sum', in the pinned program and in every row, IS THE sha256 OF THE DUMP (.gsa) THAT YtilodlmjamaiiaaProg.lean LOADS. Nothing in Lean hashes anything: it is a label: what it is worth is what the hold of that sum in a sandbox is worth. -/
noncomputable def Try.pinned : Pinned := { name := "ytilodlmjamaiiaa", sum := "0f15e1ef298a2c51b4a03ae1e771312adb5bf8a7a53b2134fbb94d8f0e8c0118", checked := Try.checked }
namespace Rows
def none {H : Type} : Left H := { results := [], args := [] }

/-- 'variantproxylaw04.TargetParses': WHATEVER THE INPUT: true; the input reads as it did. -/
def targetParsesSpec : ChangeSpec := { name := "targetParses", fn := fun _ => fun
  | [d1, d2] => { results := [.lit (.bool true)], args := [d1, d2] }
  | _ => none }
def targetParsesRow : OpenClaim := { program := "ytilodlmjamaiiaa", sum := "0f15e1ef298a2c51b4a03ae1e771312adb5bf8a7a53b2134fbb94d8f0e8c0118", func := "variantproxy/variantproxylaw04.TargetParses", spec := "targetParses", inPlace := ["internal/bytealg.IndexByteString", "internal/bytealg.IndexString"], named := ["internal/bytealg.MaxLen"], apart := false }
def TargetParsesSaid : Prop := targetParsesRow.holds Try.pinned (OpenSpec.ofChange targetParsesSpec)

/-- ITS FALSE NEIGHBOUR: 'it returns false'. Refute it at one input. -/
def targetParsesWrong : ChangeSpec := { name := "targetParses", fn := fun _ => fun
  | [d1, d2] => { results := [.lit (.bool false)], args := [d1, d2] }
  | _ => none }
def TargetParsesWrongFalsely : Prop := targetParsesRow.holds Try.pinned (OpenSpec.ofChange targetParsesWrong)

/-- 'variantproxylaw04.TargetParts': WHATEVER THE INPUT: true; the input reads as it did. -/
def targetPartsSpec : ChangeSpec := { name := "targetParts", fn := fun _ => fun
  | [d] => { results := [.lit (.bool true)], args := [d] }
  | _ => none }
def targetPartsRow : OpenClaim := { program := "ytilodlmjamaiiaa", sum := "0f15e1ef298a2c51b4a03ae1e771312adb5bf8a7a53b2134fbb94d8f0e8c0118", func := "variantproxy/variantproxylaw04.TargetParts", spec := "targetParts", inPlace := ["internal/bytealg.IndexByteString", "internal/bytealg.IndexString"], named := ["internal/bytealg.MaxLen"], apart := false }
def TargetPartsSaid : Prop := targetPartsRow.holds Try.pinned (OpenSpec.ofChange targetPartsSpec)

/-- ITS FALSE NEIGHBOUR: 'it returns false'. Refute it at one input. -/
def targetPartsWrong : ChangeSpec := { name := "targetParts", fn := fun _ => fun
  | [d] => { results := [.lit (.bool false)], args := [d] }
  | _ => none }
def TargetPartsWrongFalsely : Prop := targetPartsRow.holds Try.pinned (OpenSpec.ofChange targetPartsWrong)

/-- 'variantproxylaw04.TargetKeys': WHATEVER THE INPUT: true; the input reads as it did. -/
def targetKeysSpec : ChangeSpec := { name := "targetKeys", fn := fun _ => fun
  | [d1, d2] => { results := [.lit (.bool true)], args := [d1, d2] }
  | _ => none }
def targetKeysRow : OpenClaim := { program := "ytilodlmjamaiiaa", sum := "0f15e1ef298a2c51b4a03ae1e771312adb5bf8a7a53b2134fbb94d8f0e8c0118", func := "variantproxy/variantproxylaw04.TargetKeys", spec := "targetKeys", inPlace := ["internal/bytealg.IndexByteString", "internal/bytealg.IndexString"], named := ["internal/bytealg.MaxLen"], apart := false }
def TargetKeysSaid : Prop := targetKeysRow.holds Try.pinned (OpenSpec.ofChange targetKeysSpec)

/-- ITS FALSE NEIGHBOUR: 'it returns false'. Refute it at one input. -/
def targetKeysWrong : ChangeSpec := { name := "targetKeys", fn := fun _ => fun
  | [d1, d2] => { results := [.lit (.bool false)], args := [d1, d2] }
  | _ => none }
def TargetKeysWrongFalsely : Prop := targetKeysRow.holds Try.pinned (OpenSpec.ofChange targetKeysWrong)

/-- 'variantproxylaw04.TargetBack': WHATEVER THE INPUT: true; the input reads as it did. -/
def targetBackSpec : ChangeSpec := { name := "targetBack", fn := fun _ => fun
  | [d1, d2, d3] => { results := [.lit (.bool true)], args := [d1, d2, d3] }
  | _ => none }
def targetBackRow : OpenClaim := { program := "ytilodlmjamaiiaa", sum := "0f15e1ef298a2c51b4a03ae1e771312adb5bf8a7a53b2134fbb94d8f0e8c0118", func := "variantproxy/variantproxylaw04.TargetBack", spec := "targetBack", inPlace := ["internal/bytealg.IndexByteString", "internal/bytealg.IndexString"], named := ["internal/bytealg.MaxLen"], apart := false }
def TargetBackSaid : Prop := targetBackRow.holds Try.pinned (OpenSpec.ofChange targetBackSpec)

/-- ITS FALSE NEIGHBOUR: 'it returns false'. Refute it at one input. -/
def targetBackWrong : ChangeSpec := { name := "targetBack", fn := fun _ => fun
  | [d1, d2, d3] => { results := [.lit (.bool false)], args := [d1, d2, d3] }
  | _ => none }
def TargetBackWrongFalsely : Prop := targetBackRow.holds Try.pinned (OpenSpec.ofChange targetBackWrong)

/-- 'variantproxylaw04.TargetNormal': WHATEVER THE INPUT: true; the input reads as it did. -/
def targetNormalSpec : ChangeSpec := { name := "targetNormal", fn := fun _ => fun
  | [d] => { results := [.lit (.bool true)], args := [d] }
  | _ => none }
def targetNormalRow : OpenClaim := { program := "ytilodlmjamaiiaa", sum := "0f15e1ef298a2c51b4a03ae1e771312adb5bf8a7a53b2134fbb94d8f0e8c0118", func := "variantproxy/variantproxylaw04.TargetNormal", spec := "targetNormal", inPlace := ["internal/bytealg.IndexByteString", "internal/bytealg.IndexString"], named := ["internal/bytealg.MaxLen"], apart := false }
def TargetNormalSaid : Prop := targetNormalRow.holds Try.pinned (OpenSpec.ofChange targetNormalSpec)

/-- ITS FALSE NEIGHBOUR: 'it returns false'. Refute it at one input. -/
def targetNormalWrong : ChangeSpec := { name := "targetNormal", fn := fun _ => fun
  | [d] => { results := [.lit (.bool false)], args := [d] }
  | _ => none }
def TargetNormalWrongFalsely : Prop := targetNormalRow.holds Try.pinned (OpenSpec.ofChange targetNormalWrong)

/-- 'variantproxylaw04.TargetDots': WHATEVER THE INPUT: true; the input reads as it did. -/
def targetDotsSpec : ChangeSpec := { name := "targetDots", fn := fun _ => fun
  | [d] => { results := [.lit (.bool true)], args := [d] }
  | _ => none }
def targetDotsRow : OpenClaim := { program := "ytilodlmjamaiiaa", sum := "0f15e1ef298a2c51b4a03ae1e771312adb5bf8a7a53b2134fbb94d8f0e8c0118", func := "variantproxy/variantproxylaw04.TargetDots", spec := "targetDots", inPlace := ["internal/bytealg.IndexByteString", "internal/bytealg.IndexString"], named := ["internal/bytealg.MaxLen"], apart := false }
def TargetDotsSaid : Prop := targetDotsRow.holds Try.pinned (OpenSpec.ofChange targetDotsSpec)

/-- ITS FALSE NEIGHBOUR: 'it returns false'. Refute it at one input. -/
def targetDotsWrong : ChangeSpec := { name := "targetDots", fn := fun _ => fun
  | [d] => { results := [.lit (.bool false)], args := [d] }
  | _ => none }
def TargetDotsWrongFalsely : Prop := targetDotsRow.holds Try.pinned (OpenSpec.ofChange targetDotsWrong)

/-- 'variantproxylaw04.TargetForms': WHATEVER THE INPUT: true; the input reads as it did. -/
def targetFormsSpec : ChangeSpec := { name := "targetForms", fn := fun _ => fun
  | [d1, d2, d3] => { results := [.lit (.bool true)], args := [d1, d2, d3] }
  | _ => none }
def targetFormsRow : OpenClaim := { program := "ytilodlmjamaiiaa", sum := "0f15e1ef298a2c51b4a03ae1e771312adb5bf8a7a53b2134fbb94d8f0e8c0118", func := "variantproxy/variantproxylaw04.TargetForms", spec := "targetForms", inPlace := ["internal/bytealg.IndexByteString", "internal/bytealg.IndexString"], named := ["internal/bytealg.MaxLen"], apart := false }
def TargetFormsSaid : Prop := targetFormsRow.holds Try.pinned (OpenSpec.ofChange targetFormsSpec)

/-- ITS FALSE NEIGHBOUR: 'it returns false'. Refute it at one input. -/
def targetFormsWrong : ChangeSpec := { name := "targetForms", fn := fun _ => fun
  | [d1, d2, d3] => { results := [.lit (.bool false)], args := [d1, d2, d3] }
  | _ => none }
def TargetFormsWrongFalsely : Prop := targetFormsRow.holds Try.pinned (OpenSpec.ofChange targetFormsWrong)

/- THE SECOND FORM. 'bulk': how many values and letters a reading holds, each counted each time it is reached (what is shared counts as often as it is met; a slice's spare places count too). A statement '..UptoSaid' is the law's where the arguments, and the package variables that the reading takes, are together of bulk at most 1048576: NARROWER than '..Said'. Prove '..Said' where nothing that the law and all that it calls make is longer than what came in: it says more and counts as full. Else prove '..UptoSaid'. A law counts once. -/
mutual
def uptoBulk {H : Type} : DataW H → Nat
  | .lit (.string bytes) => bytes.length + 1
  | .lit _ => 1
  | .nil => 1
  | .ptr d => uptoBulk d + 1
  | .slice elems spare => uptoBulkAll elems + uptoBulkAll spare + 1
  | .agg parts => uptoBulkAll parts + 1
  | .iface _ d => uptoBulk d + 1
  | .map entries => uptoBulkEntries entries + 1
  | .held _ => 1
def uptoBulkAll {H : Type} : List (DataW H) → Nat
  | [] => 0
  | d :: r => uptoBulk d + uptoBulkAll r
def uptoBulkEntries {H : Type} : List (Lit × DataW H) → Nat
  | [] => 0
  | x :: r => uptoBulkEntry x + uptoBulkEntries r
def uptoBulkEntry {H : Type} : Lit × DataW H → Nat
  | (.string bytes, d) => bytes.length + uptoBulk d + 1
  | (_, d) => uptoBulk d + 1
 end
def uptoSmall : (H : Type) → List (DataW H) → Bool := fun _ ds => decide (uptoBulkAll ds ≤ 1048576)
def OpenSpec.upto (s : _root_.Go.ChangeSpec) : _root_.Go.OpenSpec := { _root_.Go.OpenSpec.ofChange s with cond := some uptoSmall }

/-- 'variantproxylaw04.TargetParses', WHERE WHAT IT READS IS OF BULK AT MOST 1048576: true; the input reads as it did. -/
def targetParsesUptoRow : OpenClaim := { program := "ytilodlmjamaiiaa", sum := "0f15e1ef298a2c51b4a03ae1e771312adb5bf8a7a53b2134fbb94d8f0e8c0118", func := "variantproxy/variantproxylaw04.TargetParses", spec := "targetParses", inPlace := ["internal/bytealg.IndexByteString", "internal/bytealg.IndexString"], named := ["internal/bytealg.MaxLen"], apart := false, narrowed := true }
def TargetParsesUptoSaid : Prop := targetParsesUptoRow.holds Try.pinned (OpenSpec.upto targetParsesSpec)

/-- 'variantproxylaw04.TargetParts', WHERE WHAT IT READS IS OF BULK AT MOST 1048576: true; the input reads as it did. -/
def targetPartsUptoRow : OpenClaim := { program := "ytilodlmjamaiiaa", sum := "0f15e1ef298a2c51b4a03ae1e771312adb5bf8a7a53b2134fbb94d8f0e8c0118", func := "variantproxy/variantproxylaw04.TargetParts", spec := "targetParts", inPlace := ["internal/bytealg.IndexByteString", "internal/bytealg.IndexString"], named := ["internal/bytealg.MaxLen"], apart := false, narrowed := true }
def TargetPartsUptoSaid : Prop := targetPartsUptoRow.holds Try.pinned (OpenSpec.upto targetPartsSpec)

/-- 'variantproxylaw04.TargetKeys', WHERE WHAT IT READS IS OF BULK AT MOST 1048576: true; the input reads as it did. -/
def targetKeysUptoRow : OpenClaim := { program := "ytilodlmjamaiiaa", sum := "0f15e1ef298a2c51b4a03ae1e771312adb5bf8a7a53b2134fbb94d8f0e8c0118", func := "variantproxy/variantproxylaw04.TargetKeys", spec := "targetKeys", inPlace := ["internal/bytealg.IndexByteString", "internal/bytealg.IndexString"], named := ["internal/bytealg.MaxLen"], apart := false, narrowed := true }
def TargetKeysUptoSaid : Prop := targetKeysUptoRow.holds Try.pinned (OpenSpec.upto targetKeysSpec)

/-- 'variantproxylaw04.TargetBack', WHERE WHAT IT READS IS OF BULK AT MOST 1048576: true; the input reads as it did. -/
def targetBackUptoRow : OpenClaim := { program := "ytilodlmjamaiiaa", sum := "0f15e1ef298a2c51b4a03ae1e771312adb5bf8a7a53b2134fbb94d8f0e8c0118", func := "variantproxy/variantproxylaw04.TargetBack", spec := "targetBack", inPlace := ["internal/bytealg.IndexByteString", "internal/bytealg.IndexString"], named := ["internal/bytealg.MaxLen"], apart := false, narrowed := true }
def TargetBackUptoSaid : Prop := targetBackUptoRow.holds Try.pinned (OpenSpec.upto targetBackSpec)

/-- 'variantproxylaw04.TargetNormal', WHERE WHAT IT READS IS OF BULK AT MOST 1048576: true; the input reads as it did. -/
def targetNormalUptoRow : OpenClaim := { program := "ytilodlmjamaiiaa", sum := "0f15e1ef298a2c51b4a03ae1e771312adb5bf8a7a53b2134fbb94d8f0e8c0118", func := "variantproxy/variantproxylaw04.TargetNormal", spec := "targetNormal", inPlace := ["internal/bytealg.IndexByteString", "internal/bytealg.IndexString"], named := ["internal/bytealg.MaxLen"], apart := false, narrowed := true }
def TargetNormalUptoSaid : Prop := targetNormalUptoRow.holds Try.pinned (OpenSpec.upto targetNormalSpec)

/-- 'variantproxylaw04.TargetDots', WHERE WHAT IT READS IS OF BULK AT MOST 1048576: true; the input reads as it did. -/
def targetDotsUptoRow : OpenClaim := { program := "ytilodlmjamaiiaa", sum := "0f15e1ef298a2c51b4a03ae1e771312adb5bf8a7a53b2134fbb94d8f0e8c0118", func := "variantproxy/variantproxylaw04.TargetDots", spec := "targetDots", inPlace := ["internal/bytealg.IndexByteString", "internal/bytealg.IndexString"], named := ["internal/bytealg.MaxLen"], apart := false, narrowed := true }
def TargetDotsUptoSaid : Prop := targetDotsUptoRow.holds Try.pinned (OpenSpec.upto targetDotsSpec)

/-- 'variantproxylaw04.TargetForms', WHERE WHAT IT READS IS OF BULK AT MOST 1048576: true; the input reads as it did. -/
def targetFormsUptoRow : OpenClaim := { program := "ytilodlmjamaiiaa", sum := "0f15e1ef298a2c51b4a03ae1e771312adb5bf8a7a53b2134fbb94d8f0e8c0118", func := "variantproxy/variantproxylaw04.TargetForms", spec := "targetForms", inPlace := ["internal/bytealg.IndexByteString", "internal/bytealg.IndexString"], named := ["internal/bytealg.MaxLen"], apart := false, narrowed := true }
def TargetFormsUptoSaid : Prop := targetFormsUptoRow.holds Try.pinned (OpenSpec.upto targetFormsSpec)

end Rows
end Go.Proofs.Ytilodlmjamaiiaa
