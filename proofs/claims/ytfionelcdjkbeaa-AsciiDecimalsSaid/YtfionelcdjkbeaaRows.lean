/-
  No cell of these rows narrows 'for every input' (looked for: loops, veiled, ifaces, maps, wideKeys, modest, calm, conditions, laid).
  DERIVED. THE GIVEN ROWS OF THIS SEAT. 8 by the template 'for every input the law returns true; each argument reads behind the call as it read before'; 0 by the template 'total and deterministic' (their statements: YtfionelcdjkbeaaTotals.lean).
  GIVEN WITH THE SEED: the statements are not yours to turn. If you find one false, say at which input.
  Laid BY PROGRAM, IN A SANDBOX (cutbox-rows.mjs): the forced cells as the released guide's own fill.sh prints them over the translation 5a93fbbd29fb77bd… (all of the seat's roots in one cut). By AI agents, Wed Nov 11 2026. No macro, syntax, notation, axiom, sorry.
-/
import Derived.Test.YtfionelcdjkbeaaChecked
import GoSem.Claim
import GoSem.ClaimJoined
import GoSem.ClaimMapViews
import Derived.JoinedTies
import Derived.KernelRfl
namespace Go.Proofs.Ytfionelcdjkbeaa
/- THE CELL 'sum', in the pinned program and in every row, IS THE sha256 OF THE DUMP (.gsa) THAT YtfionelcdjkbeaaProg.lean LOADS. Nothing in Lean hashes anything: it is a label: what it is worth is what the hold of that sum in a sandbox is worth. -/
noncomputable def Try.pinned : Pinned := { name := "ytfionelcdjkbeaa", sum := "5a93fbbd29fb77bd34e3b12eea59c8358d233726589da4dc8588879c22172eac", checked := Try.checked }
namespace Rows
def none {H : Type} : Left H := { results := [], args := [] }

/-- 'variantproxylaw01.AsciiTokens': WHATEVER THE INPUT: true; the input reads as it did. -/
def asciiTokensSpec : ChangeSpec := { name := "asciiTokens", fn := fun _ => fun
  | [d] => { results := [.lit (.bool true)], args := [d] }
  | _ => none }
def asciiTokensRow : OpenClaim := { program := "ytfionelcdjkbeaa", sum := "5a93fbbd29fb77bd34e3b12eea59c8358d233726589da4dc8588879c22172eac", func := "variantproxy/variantproxylaw01.AsciiTokens", spec := "asciiTokens", apart := false }
def AsciiTokensSaid : Prop := asciiTokensRow.holds Try.pinned (OpenSpec.ofChange asciiTokensSpec)

/-- ITS FALSE NEIGHBOUR: 'it returns false'. Refute it at one input. -/
def asciiTokensWrong : ChangeSpec := { name := "asciiTokens", fn := fun _ => fun
  | [d] => { results := [.lit (.bool false)], args := [d] }
  | _ => none }
def AsciiTokensWrongFalsely : Prop := asciiTokensRow.holds Try.pinned (OpenSpec.ofChange asciiTokensWrong)

/-- 'variantproxylaw01.AsciiCases': WHATEVER THE INPUT: true; the input reads as it did. -/
def asciiCasesSpec : ChangeSpec := { name := "asciiCases", fn := fun _ => fun
  | [d1, d2] => { results := [.lit (.bool true)], args := [d1, d2] }
  | _ => none }
def asciiCasesRow : OpenClaim := { program := "ytfionelcdjkbeaa", sum := "5a93fbbd29fb77bd34e3b12eea59c8358d233726589da4dc8588879c22172eac", func := "variantproxy/variantproxylaw01.AsciiCases", spec := "asciiCases", apart := false }
def AsciiCasesSaid : Prop := asciiCasesRow.holds Try.pinned (OpenSpec.ofChange asciiCasesSpec)

/-- ITS FALSE NEIGHBOUR: 'it returns false'. Refute it at one input. -/
def asciiCasesWrong : ChangeSpec := { name := "asciiCases", fn := fun _ => fun
  | [d1, d2] => { results := [.lit (.bool false)], args := [d1, d2] }
  | _ => none }
def AsciiCasesWrongFalsely : Prop := asciiCasesRow.holds Try.pinned (OpenSpec.ofChange asciiCasesWrong)

/-- 'variantproxylaw01.AsciiNumbers': WHATEVER THE INPUT: true; the input reads as it did. -/
def asciiNumbersSpec : ChangeSpec := { name := "asciiNumbers", fn := fun _ => fun
  | [d1, d2] => { results := [.lit (.bool true)], args := [d1, d2] }
  | _ => none }
def asciiNumbersRow : OpenClaim := { program := "ytfionelcdjkbeaa", sum := "5a93fbbd29fb77bd34e3b12eea59c8358d233726589da4dc8588879c22172eac", func := "variantproxy/variantproxylaw01.AsciiNumbers", spec := "asciiNumbers", apart := false }
def AsciiNumbersSaid : Prop := asciiNumbersRow.holds Try.pinned (OpenSpec.ofChange asciiNumbersSpec)

/-- ITS FALSE NEIGHBOUR: 'it returns false'. Refute it at one input. -/
def asciiNumbersWrong : ChangeSpec := { name := "asciiNumbers", fn := fun _ => fun
  | [d1, d2] => { results := [.lit (.bool false)], args := [d1, d2] }
  | _ => none }
def AsciiNumbersWrongFalsely : Prop := asciiNumbersRow.holds Try.pinned (OpenSpec.ofChange asciiNumbersWrong)

/-- 'variantproxylaw01.AsciiQuotes': WHATEVER THE INPUT: true; the input reads as it did. -/
def asciiQuotesSpec : ChangeSpec := { name := "asciiQuotes", fn := fun _ => fun
  | [d] => { results := [.lit (.bool true)], args := [d] }
  | _ => none }
def asciiQuotesRow : OpenClaim := { program := "ytfionelcdjkbeaa", sum := "5a93fbbd29fb77bd34e3b12eea59c8358d233726589da4dc8588879c22172eac", func := "variantproxy/variantproxylaw01.AsciiQuotes", spec := "asciiQuotes", apart := false }
def AsciiQuotesSaid : Prop := asciiQuotesRow.holds Try.pinned (OpenSpec.ofChange asciiQuotesSpec)

/-- ITS FALSE NEIGHBOUR: 'it returns false'. Refute it at one input. -/
def asciiQuotesWrong : ChangeSpec := { name := "asciiQuotes", fn := fun _ => fun
  | [d] => { results := [.lit (.bool false)], args := [d] }
  | _ => none }
def AsciiQuotesWrongFalsely : Prop := asciiQuotesRow.holds Try.pinned (OpenSpec.ofChange asciiQuotesWrong)

/-- 'variantproxylaw01.AsciiQuoted': WHATEVER THE INPUT: true; the input reads as it did. -/
def asciiQuotedSpec : ChangeSpec := { name := "asciiQuoted", fn := fun _ => fun
  | [d] => { results := [.lit (.bool true)], args := [d] }
  | _ => none }
def asciiQuotedRow : OpenClaim := { program := "ytfionelcdjkbeaa", sum := "5a93fbbd29fb77bd34e3b12eea59c8358d233726589da4dc8588879c22172eac", func := "variantproxy/variantproxylaw01.AsciiQuoted", spec := "asciiQuoted", apart := false }
def AsciiQuotedSaid : Prop := asciiQuotedRow.holds Try.pinned (OpenSpec.ofChange asciiQuotedSpec)

/-- ITS FALSE NEIGHBOUR: 'it returns false'. Refute it at one input. -/
def asciiQuotedWrong : ChangeSpec := { name := "asciiQuoted", fn := fun _ => fun
  | [d] => { results := [.lit (.bool false)], args := [d] }
  | _ => none }
def AsciiQuotedWrongFalsely : Prop := asciiQuotedRow.holds Try.pinned (OpenSpec.ofChange asciiQuotedWrong)

/-- 'variantproxylaw01.AsciiTrimmed': WHATEVER THE INPUT: true; the input reads as it did. -/
def asciiTrimmedSpec : ChangeSpec := { name := "asciiTrimmed", fn := fun _ => fun
  | [d1, d2, d3] => { results := [.lit (.bool true)], args := [d1, d2, d3] }
  | _ => none }
def asciiTrimmedRow : OpenClaim := { program := "ytfionelcdjkbeaa", sum := "5a93fbbd29fb77bd34e3b12eea59c8358d233726589da4dc8588879c22172eac", func := "variantproxy/variantproxylaw01.AsciiTrimmed", spec := "asciiTrimmed", apart := false }
def AsciiTrimmedSaid : Prop := asciiTrimmedRow.holds Try.pinned (OpenSpec.ofChange asciiTrimmedSpec)

/-- ITS FALSE NEIGHBOUR: 'it returns false'. Refute it at one input. -/
def asciiTrimmedWrong : ChangeSpec := { name := "asciiTrimmed", fn := fun _ => fun
  | [d1, d2, d3] => { results := [.lit (.bool false)], args := [d1, d2, d3] }
  | _ => none }
def AsciiTrimmedWrongFalsely : Prop := asciiTrimmedRow.holds Try.pinned (OpenSpec.ofChange asciiTrimmedWrong)

/-- 'variantproxylaw01.AsciiDecimals': WHATEVER THE INPUT: true; the input reads as it did. -/
def asciiDecimalsSpec : ChangeSpec := { name := "asciiDecimals", fn := fun _ => fun
  | [d] => { results := [.lit (.bool true)], args := [d] }
  | _ => none }
def asciiDecimalsRow : OpenClaim := { program := "ytfionelcdjkbeaa", sum := "5a93fbbd29fb77bd34e3b12eea59c8358d233726589da4dc8588879c22172eac", func := "variantproxy/variantproxylaw01.AsciiDecimals", spec := "asciiDecimals", apart := false }
def AsciiDecimalsSaid : Prop := asciiDecimalsRow.holds Try.pinned (OpenSpec.ofChange asciiDecimalsSpec)

/-- ITS FALSE NEIGHBOUR: 'it returns false'. Refute it at one input. -/
def asciiDecimalsWrong : ChangeSpec := { name := "asciiDecimals", fn := fun _ => fun
  | [d] => { results := [.lit (.bool false)], args := [d] }
  | _ => none }
def AsciiDecimalsWrongFalsely : Prop := asciiDecimalsRow.holds Try.pinned (OpenSpec.ofChange asciiDecimalsWrong)

/-- 'variantproxylaw01.AsciiFolds': WHATEVER THE INPUT: true; the input reads as it did. -/
def asciiFoldsSpec : ChangeSpec := { name := "asciiFolds", fn := fun _ => fun
  | [d1, d2, d3] => { results := [.lit (.bool true)], args := [d1, d2, d3] }
  | _ => none }
def asciiFoldsRow : OpenClaim := { program := "ytfionelcdjkbeaa", sum := "5a93fbbd29fb77bd34e3b12eea59c8358d233726589da4dc8588879c22172eac", func := "variantproxy/variantproxylaw01.AsciiFolds", spec := "asciiFolds", apart := false }
def AsciiFoldsSaid : Prop := asciiFoldsRow.holds Try.pinned (OpenSpec.ofChange asciiFoldsSpec)

/-- ITS FALSE NEIGHBOUR: 'it returns false'. Refute it at one input. -/
def asciiFoldsWrong : ChangeSpec := { name := "asciiFolds", fn := fun _ => fun
  | [d1, d2, d3] => { results := [.lit (.bool false)], args := [d1, d2, d3] }
  | _ => none }
def AsciiFoldsWrongFalsely : Prop := asciiFoldsRow.holds Try.pinned (OpenSpec.ofChange asciiFoldsWrong)

/- THE SECOND FORM. 'bulk': how many values and letters a reading holds, each counted each time it is reached (what is shared counts as often as it is met; a slice's spare places count too). A statement '..UptoSaid' is the law's where the arguments, and the package variables that the reading takes, are together of bulk at most 1048576: NARROWER than '..Said'. Prove '..Said' where nothing that the law and all that it calls make is longer than what came in: it says more and counts as full. Else prove '..UptoSaid'. A law counts once. -/
mutual
def uptoBulk {H : Type} : DataW H → Nat
  | .lit (.string bytes) => bytes.length + 1
  | .lit _ => 1
  | .nil => 1
  | .ptr d => uptoBulk d + 1
  | .slice elems spare => uptoBulkAll elems + uptoBulkAll spare + 1
  | .agg parts => uptoBulkAll parts + 1
  | .iface _ d => uptoBulk d + 1
  | .map entries => uptoBulkEntries entries + 1
  | .held _ => 1
def uptoBulkAll {H : Type} : List (DataW H) → Nat
  | [] => 0
  | d :: r => uptoBulk d + uptoBulkAll r
def uptoBulkEntries {H : Type} : List (Lit × DataW H) → Nat
  | [] => 0
  | x :: r => uptoBulkEntry x + uptoBulkEntries r
def uptoBulkEntry {H : Type} : Lit × DataW H → Nat
  | (.string bytes, d) => bytes.length + uptoBulk d + 1
  | (_, d) => uptoBulk d + 1
 end
def uptoSmall : (H : Type) → List (DataW H) → Bool := fun _ ds => decide (uptoBulkAll ds ≤ 1048576)
def OpenSpec.upto (s : _root_.Go.ChangeSpec) : _root_.Go.OpenSpec := { _root_.Go.OpenSpec.ofChange s with cond := some uptoSmall }

/-- 'variantproxylaw01.AsciiTokens', WHERE WHAT IT READS IS OF BULK AT MOST 1048576: true; the input reads as it did. -/
def asciiTokensUptoRow : OpenClaim := { program := "ytfionelcdjkbeaa", sum := "5a93fbbd29fb77bd34e3b12eea59c8358d233726589da4dc8588879c22172eac", func := "variantproxy/variantproxylaw01.AsciiTokens", spec := "asciiTokens", apart := false, narrowed := true }
def AsciiTokensUptoSaid : Prop := asciiTokensUptoRow.holds Try.pinned (OpenSpec.upto asciiTokensSpec)

/-- 'variantproxylaw01.AsciiCases', WHERE WHAT IT READS IS OF BULK AT MOST 1048576: true; the input reads as it did. -/
def asciiCasesUptoRow : OpenClaim := { program := "ytfionelcdjkbeaa", sum := "5a93fbbd29fb77bd34e3b12eea59c8358d233726589da4dc8588879c22172eac", func := "variantproxy/variantproxylaw01.AsciiCases", spec := "asciiCases", apart := false, narrowed := true }
def AsciiCasesUptoSaid : Prop := asciiCasesUptoRow.holds Try.pinned (OpenSpec.upto asciiCasesSpec)

/-- 'variantproxylaw01.AsciiNumbers', WHERE WHAT IT READS IS OF BULK AT MOST 1048576: true; the input reads as it did. -/
def asciiNumbersUptoRow : OpenClaim := { program := "ytfionelcdjkbeaa", sum := "5a93fbbd29fb77bd34e3b12eea59c8358d233726589da4dc8588879c22172eac", func := "variantproxy/variantproxylaw01.AsciiNumbers", spec := "asciiNumbers", apart := false, narrowed := true }
def AsciiNumbersUptoSaid : Prop := asciiNumbersUptoRow.holds Try.pinned (OpenSpec.upto asciiNumbersSpec)

/-- 'variantproxylaw01.AsciiQuotes', WHERE WHAT IT READS IS OF BULK AT MOST 1048576: true; the input reads as it did. -/
def asciiQuotesUptoRow : OpenClaim := { program := "ytfionelcdjkbeaa", sum := "5a93fbbd29fb77bd34e3b12eea59c8358d233726589da4dc8588879c22172eac", func := "variantproxy/variantproxylaw01.AsciiQuotes", spec := "asciiQuotes", apart := false, narrowed := true }
def AsciiQuotesUptoSaid : Prop := asciiQuotesUptoRow.holds Try.pinned (OpenSpec.upto asciiQuotesSpec)

/-- 'variantproxylaw01.AsciiQuoted', WHERE WHAT IT READS IS OF BULK AT MOST 1048576: true; the input reads as it did. -/
def asciiQuotedUptoRow : OpenClaim := { program := "ytfionelcdjkbeaa", sum := "5a93fbbd29fb77bd34e3b12eea59c8358d233726589da4dc8588879c22172eac", func := "variantproxy/variantproxylaw01.AsciiQuoted", spec := "asciiQuoted", apart := false, narrowed := true }
def AsciiQuotedUptoSaid : Prop := asciiQuotedUptoRow.holds Try.pinned (OpenSpec.upto asciiQuotedSpec)

/-- 'variantproxylaw01.AsciiTrimmed', WHERE WHAT IT READS IS OF BULK AT MOST 1048576: true; the input reads as it did. -/
def asciiTrimmedUptoRow : OpenClaim := { program := "ytfionelcdjkbeaa", sum := "5a93fbbd29fb77bd34e3b12eea59c8358d233726589da4dc8588879c22172eac", func := "variantproxy/variantproxylaw01.AsciiTrimmed", spec := "asciiTrimmed", apart := false, narrowed := true }
def AsciiTrimmedUptoSaid : Prop := asciiTrimmedUptoRow.holds Try.pinned (OpenSpec.upto asciiTrimmedSpec)

/-- 'variantproxylaw01.AsciiDecimals', WHERE WHAT IT READS IS OF BULK AT MOST 1048576: true; the input reads as it did. -/
def asciiDecimalsUptoRow : OpenClaim := { program := "ytfionelcdjkbeaa", sum := "5a93fbbd29fb77bd34e3b12eea59c8358d233726589da4dc8588879c22172eac", func := "variantproxy/variantproxylaw01.AsciiDecimals", spec := "asciiDecimals", apart := false, narrowed := true }
def AsciiDecimalsUptoSaid : Prop := asciiDecimalsUptoRow.holds Try.pinned (OpenSpec.upto asciiDecimalsSpec)

/-- 'variantproxylaw01.AsciiFolds', WHERE WHAT IT READS IS OF BULK AT MOST 1048576: true; the input reads as it did. -/
def asciiFoldsUptoRow : OpenClaim := { program := "ytfionelcdjkbeaa", sum := "5a93fbbd29fb77bd34e3b12eea59c8358d233726589da4dc8588879c22172eac", func := "variantproxy/variantproxylaw01.AsciiFolds", spec := "asciiFolds", apart := false, narrowed := true }
def AsciiFoldsUptoSaid : Prop := asciiFoldsUptoRow.holds Try.pinned (OpenSpec.upto asciiFoldsSpec)

end Rows
end Go.Proofs.Ytfionelcdjkbeaa
