/-
  No cell of these rows narrows 'for every input' (looked for: loops, veiled, ifaces, maps, wideKeys, modest, calm, conditions, laid).
  DERIVED. THE GIVEN ROWS OF THIS SEAT. 5 by the template 'for every input the law returns true; each argument reads behind the call as it read before'; 0 by the template 'total and deterministic' (their statements: YtlcojfkkeommoaaTotals.lean).
  GIVEN WITH THE SEED: the statements are not yours to turn. If you find one false, say at which input.
  Laid BY PROGRAM, IN A SANDBOX (cutbox-rows.mjs): the forced cells as the released guide's own fill.sh prints them over the translation 5698f39d7bccfeaf… (all of the seat's roots in one cut). By AI agents, Wed Nov 11 2026. No macro, syntax, notation, axiom, sorry.
-/
import Derived.Test.YtlcojfkkeommoaaChecked
import GoSem.Claim
import GoSem.ClaimJoined
import GoSem.ClaimMapViews
import Derived.JoinedTies
import Derived.KernelRfl
namespace Go.Proofs.Ytlcojfkkeommoaa
/- THE CELL 'sum', in the pinned program and in every row, IS THE sha256 OF THE DUMP (.gsa) THAT YtlcojfkkeommoaaProg.lean LOADS. Nothing in Lean hashes anything: it is a label: what it is worth is what the hold of that sum in a sandbox is worth. -/
noncomputable def Try.pinned : Pinned := { name := "ytlcojfkkeommoaa", sum := "5698f39d7bccfeaf231604551fcfad90ce527794f879c89dea62cc4eb8c8abbf", checked := Try.checked }
namespace Rows
def none {H : Type} : Left H := { results := [], args := [] }

/-- 'variantproxylaw22.CachecontrolReads': WHATEVER THE INPUT: true; the input reads as it did. -/
def cachecontrolReadsSpec : ChangeSpec := { name := "cachecontrolReads", fn := fun _ => fun
  | [d] => { results := [.lit (.bool true)], args := [d] }
  | _ => none }
def cachecontrolReadsRow : OpenClaim := { program := "ytlcojfkkeommoaa", sum := "5698f39d7bccfeaf231604551fcfad90ce527794f879c89dea62cc4eb8c8abbf", func := "variantproxy/variantproxylaw22.CachecontrolReads", spec := "cachecontrolReads", unfollowed := true, recurses := true, apart := false }
def CachecontrolReadsSaid : Prop := cachecontrolReadsRow.holds Try.pinned (OpenSpec.ofChange cachecontrolReadsSpec)

/-- ITS FALSE NEIGHBOUR: 'it returns false'. Refute it at one input. -/
def cachecontrolReadsWrong : ChangeSpec := { name := "cachecontrolReads", fn := fun _ => fun
  | [d] => { results := [.lit (.bool false)], args := [d] }
  | _ => none }
def CachecontrolReadsWrongFalsely : Prop := cachecontrolReadsRow.holds Try.pinned (OpenSpec.ofChange cachecontrolReadsWrong)

/-- 'variantproxylaw22.CachecontrolFirst': WHATEVER THE INPUT: true; the input reads as it did. -/
def cachecontrolFirstSpec : ChangeSpec := { name := "cachecontrolFirst", fn := fun _ => fun
  | [d1, d2, d3] => { results := [.lit (.bool true)], args := [d1, d2, d3] }
  | _ => none }
def cachecontrolFirstRow : OpenClaim := { program := "ytlcojfkkeommoaa", sum := "5698f39d7bccfeaf231604551fcfad90ce527794f879c89dea62cc4eb8c8abbf", func := "variantproxy/variantproxylaw22.CachecontrolFirst", spec := "cachecontrolFirst", unfollowed := true, recurses := true, apart := false }
def CachecontrolFirstSaid : Prop := cachecontrolFirstRow.holds Try.pinned (OpenSpec.ofChange cachecontrolFirstSpec)

/-- ITS FALSE NEIGHBOUR: 'it returns false'. Refute it at one input. -/
def cachecontrolFirstWrong : ChangeSpec := { name := "cachecontrolFirst", fn := fun _ => fun
  | [d1, d2, d3] => { results := [.lit (.bool false)], args := [d1, d2, d3] }
  | _ => none }
def CachecontrolFirstWrongFalsely : Prop := cachecontrolFirstRow.holds Try.pinned (OpenSpec.ofChange cachecontrolFirstWrong)

/-- 'variantproxylaw22.CachecontrolForms': WHATEVER THE INPUT: true; the input reads as it did. -/
def cachecontrolFormsSpec : ChangeSpec := { name := "cachecontrolForms", fn := fun _ => fun
  | [d1, d2] => { results := [.lit (.bool true)], args := [d1, d2] }
  | _ => none }
def cachecontrolFormsRow : OpenClaim := { program := "ytlcojfkkeommoaa", sum := "5698f39d7bccfeaf231604551fcfad90ce527794f879c89dea62cc4eb8c8abbf", func := "variantproxy/variantproxylaw22.CachecontrolForms", spec := "cachecontrolForms", unfollowed := true, recurses := true, apart := false }
def CachecontrolFormsSaid : Prop := cachecontrolFormsRow.holds Try.pinned (OpenSpec.ofChange cachecontrolFormsSpec)

/-- ITS FALSE NEIGHBOUR: 'it returns false'. Refute it at one input. -/
def cachecontrolFormsWrong : ChangeSpec := { name := "cachecontrolForms", fn := fun _ => fun
  | [d1, d2] => { results := [.lit (.bool false)], args := [d1, d2] }
  | _ => none }
def CachecontrolFormsWrongFalsely : Prop := cachecontrolFormsRow.holds Try.pinned (OpenSpec.ofChange cachecontrolFormsWrong)

/-- 'variantproxylaw22.CachecontrolOverflow': WHATEVER THE INPUT: true; the input reads as it did. -/
def cachecontrolOverflowSpec : ChangeSpec := { name := "cachecontrolOverflow", fn := fun _ => fun
  | [d1, d2] => { results := [.lit (.bool true)], args := [d1, d2] }
  | _ => none }
def cachecontrolOverflowRow : OpenClaim := { program := "ytlcojfkkeommoaa", sum := "5698f39d7bccfeaf231604551fcfad90ce527794f879c89dea62cc4eb8c8abbf", func := "variantproxy/variantproxylaw22.CachecontrolOverflow", spec := "cachecontrolOverflow", unfollowed := true, recurses := true, apart := false }
def CachecontrolOverflowSaid : Prop := cachecontrolOverflowRow.holds Try.pinned (OpenSpec.ofChange cachecontrolOverflowSpec)

/-- ITS FALSE NEIGHBOUR: 'it returns false'. Refute it at one input. -/
def cachecontrolOverflowWrong : ChangeSpec := { name := "cachecontrolOverflow", fn := fun _ => fun
  | [d1, d2] => { results := [.lit (.bool false)], args := [d1, d2] }
  | _ => none }
def CachecontrolOverflowWrongFalsely : Prop := cachecontrolOverflowRow.holds Try.pinned (OpenSpec.ofChange cachecontrolOverflowWrong)

/-- 'variantproxylaw22.CachecontrolPragma': WHATEVER THE INPUT: true; the input reads as it did. -/
def cachecontrolPragmaSpec : ChangeSpec := { name := "cachecontrolPragma", fn := fun _ => fun
  | [d1, d2] => { results := [.lit (.bool true)], args := [d1, d2] }
  | _ => none }
def cachecontrolPragmaRow : OpenClaim := { program := "ytlcojfkkeommoaa", sum := "5698f39d7bccfeaf231604551fcfad90ce527794f879c89dea62cc4eb8c8abbf", func := "variantproxy/variantproxylaw22.CachecontrolPragma", spec := "cachecontrolPragma", unfollowed := true, recurses := true, apart := false }
def CachecontrolPragmaSaid : Prop := cachecontrolPragmaRow.holds Try.pinned (OpenSpec.ofChange cachecontrolPragmaSpec)

/-- ITS FALSE NEIGHBOUR: 'it returns false'. Refute it at one input. -/
def cachecontrolPragmaWrong : ChangeSpec := { name := "cachecontrolPragma", fn := fun _ => fun
  | [d1, d2] => { results := [.lit (.bool false)], args := [d1, d2] }
  | _ => none }
def CachecontrolPragmaWrongFalsely : Prop := cachecontrolPragmaRow.holds Try.pinned (OpenSpec.ofChange cachecontrolPragmaWrong)

/- THE SECOND FORM. 'bulk': how many values and letters a reading holds, each counted each time it is reached (what is shared counts as often as it is met; a slice's spare places count too). A statement '..UptoSaid' is the law's where the arguments, and the package variables that the reading takes, are together of bulk at most 1048576: NARROWER than '..Said'. Prove '..Said' where nothing that the law and all that it calls make is longer than what came in: it says more and counts as full. Else prove '..UptoSaid'. A law counts once. -/
mutual
def uptoBulk {H : Type} : DataW H → Nat
  | .lit (.string bytes) => bytes.length + 1
  | .lit _ => 1
  | .nil => 1
  | .ptr d => uptoBulk d + 1
  | .slice elems spare => uptoBulkAll elems + uptoBulkAll spare + 1
  | .agg parts => uptoBulkAll parts + 1
  | .iface _ d => uptoBulk d + 1
  | .map entries => uptoBulkEntries entries + 1
  | .held _ => 1
def uptoBulkAll {H : Type} : List (DataW H) → Nat
  | [] => 0
  | d :: r => uptoBulk d + uptoBulkAll r
def uptoBulkEntries {H : Type} : List (Lit × DataW H) → Nat
  | [] => 0
  | x :: r => uptoBulkEntry x + uptoBulkEntries r
def uptoBulkEntry {H : Type} : Lit × DataW H → Nat
  | (.string bytes, d) => bytes.length + uptoBulk d + 1
  | (_, d) => uptoBulk d + 1
 end
def uptoSmall : (H : Type) → List (DataW H) → Bool := fun _ ds => decide (uptoBulkAll ds ≤ 1048576)
def OpenSpec.upto (s : _root_.Go.ChangeSpec) : _root_.Go.OpenSpec := { _root_.Go.OpenSpec.ofChange s with cond := some uptoSmall }

/-- 'variantproxylaw22.CachecontrolReads', WHERE WHAT IT READS IS OF BULK AT MOST 1048576: true; the input reads as it did. -/
def cachecontrolReadsUptoRow : OpenClaim := { program := "ytlcojfkkeommoaa", sum := "5698f39d7bccfeaf231604551fcfad90ce527794f879c89dea62cc4eb8c8abbf", func := "variantproxy/variantproxylaw22.CachecontrolReads", spec := "cachecontrolReads", unfollowed := true, recurses := true, apart := false, narrowed := true }
def CachecontrolReadsUptoSaid : Prop := cachecontrolReadsUptoRow.holds Try.pinned (OpenSpec.upto cachecontrolReadsSpec)

/-- 'variantproxylaw22.CachecontrolFirst', WHERE WHAT IT READS IS OF BULK AT MOST 1048576: true; the input reads as it did. -/
def cachecontrolFirstUptoRow : OpenClaim := { program := "ytlcojfkkeommoaa", sum := "5698f39d7bccfeaf231604551fcfad90ce527794f879c89dea62cc4eb8c8abbf", func := "variantproxy/variantproxylaw22.CachecontrolFirst", spec := "cachecontrolFirst", unfollowed := true, recurses := true, apart := false, narrowed := true }
def CachecontrolFirstUptoSaid : Prop := cachecontrolFirstUptoRow.holds Try.pinned (OpenSpec.upto cachecontrolFirstSpec)

/-- 'variantproxylaw22.CachecontrolForms', WHERE WHAT IT READS IS OF BULK AT MOST 1048576: true; the input reads as it did. -/
def cachecontrolFormsUptoRow : OpenClaim := { program := "ytlcojfkkeommoaa", sum := "5698f39d7bccfeaf231604551fcfad90ce527794f879c89dea62cc4eb8c8abbf", func := "variantproxy/variantproxylaw22.CachecontrolForms", spec := "cachecontrolForms", unfollowed := true, recurses := true, apart := false, narrowed := true }
def CachecontrolFormsUptoSaid : Prop := cachecontrolFormsUptoRow.holds Try.pinned (OpenSpec.upto cachecontrolFormsSpec)

/-- 'variantproxylaw22.CachecontrolOverflow', WHERE WHAT IT READS IS OF BULK AT MOST 1048576: true; the input reads as it did. -/
def cachecontrolOverflowUptoRow : OpenClaim := { program := "ytlcojfkkeommoaa", sum := "5698f39d7bccfeaf231604551fcfad90ce527794f879c89dea62cc4eb8c8abbf", func := "variantproxy/variantproxylaw22.CachecontrolOverflow", spec := "cachecontrolOverflow", unfollowed := true, recurses := true, apart := false, narrowed := true }
def CachecontrolOverflowUptoSaid : Prop := cachecontrolOverflowUptoRow.holds Try.pinned (OpenSpec.upto cachecontrolOverflowSpec)

/-- 'variantproxylaw22.CachecontrolPragma', WHERE WHAT IT READS IS OF BULK AT MOST 1048576: true; the input reads as it did. -/
def cachecontrolPragmaUptoRow : OpenClaim := { program := "ytlcojfkkeommoaa", sum := "5698f39d7bccfeaf231604551fcfad90ce527794f879c89dea62cc4eb8c8abbf", func := "variantproxy/variantproxylaw22.CachecontrolPragma", spec := "cachecontrolPragma", unfollowed := true, recurses := true, apart := false, narrowed := true }
def CachecontrolPragmaUptoSaid : Prop := cachecontrolPragmaUptoRow.holds Try.pinned (OpenSpec.upto cachecontrolPragmaSpec)

end Rows
end Go.Proofs.Ytlcojfkkeommoaa
