/-
  No cell of these rows narrows 'for every input' (looked for: loops, veiled, ifaces, maps, wideKeys, modest, calm, conditions, laid).
  DERIVED. THE GIVEN ROWS OF THIS SEAT. 4 by the template 'for every input the law returns true; each argument reads behind the call as it read before'; 0 by the template 'total and deterministic' (their statements: YtgmfmlcpogbolaaTotals.lean).
  GIVEN WITH THE SEED: the statements are not yours to turn. If you find one false, say at which input.
  Laid BY PROGRAM, IN A SANDBOX (cutbox-rows.mjs): the forced cells as the released guide's own fill.sh prints them over the translation 95472d459783b502… (all of the seat's roots in one cut). By AI agents, Wed Nov 11 2026. No macro, syntax, notation, axiom, sorry.
-/
import Derived.Test.YtgmfmlcpogbolaaChecked
import GoSem.Claim
import GoSem.ClaimJoined
import GoSem.ClaimMapViews
import Derived.JoinedTies
import Derived.KernelRfl
namespace Go.Proofs.Ytgmfmlcpogbolaa
/- THE CELL 'sum', in the pinned program and in every row, IS THE sha256 OF THE DUMP (.gsa) THAT YtgmfmlcpogbolaaProg.lean LOADS. Nothing in Lean hashes anything: it is a label: what it is worth is what the hold of that sum in a sandbox is worth. -/
noncomputable def Try.pinned : Pinned := { name := "ytgmfmlcpogbolaa", sum := "95472d459783b502994d38573c9c0c6d1aa5761693ce735ac9218534dc7e3931", checked := Try.checked }
namespace Rows
def none {H : Type} : Left H := { results := [], args := [] }

/-- 'variantproxylaw14.RankQualities': WHATEVER THE INPUT: true; the input reads as it did. -/
def rankQualitiesSpec : ChangeSpec := { name := "rankQualities", fn := fun _ => fun
  | [d1, d2, d3, d4] => { results := [.lit (.bool true)], args := [d1, d2, d3, d4] }
  | _ => none }
def rankQualitiesRow : OpenClaim := { program := "ytgmfmlcpogbolaa", sum := "95472d459783b502994d38573c9c0c6d1aa5761693ce735ac9218534dc7e3931", func := "variantproxy/variantproxylaw14.RankQualities", spec := "rankQualities", inPlace := ["internal/bytealg.IndexByteString", "internal/bytealg.IndexString", "internal/bytealg.CountString", "slices.overlaps[variantproxy/rank.level]"], unfollowed := true, recurses := true, named := ["internal/bytealg.MaxLen"], plainKeys := false, apart := false }
def RankQualitiesSaid : Prop := rankQualitiesRow.holds Try.pinned (OpenSpec.ofChange rankQualitiesSpec)

/-- ITS FALSE NEIGHBOUR: 'it returns false'. Refute it at one input. -/
def rankQualitiesWrong : ChangeSpec := { name := "rankQualities", fn := fun _ => fun
  | [d1, d2, d3, d4] => { results := [.lit (.bool false)], args := [d1, d2, d3, d4] }
  | _ => none }
def RankQualitiesWrongFalsely : Prop := rankQualitiesRow.holds Try.pinned (OpenSpec.ofChange rankQualitiesWrong)

/-- 'variantproxylaw14.RankSorted': WHATEVER THE INPUT: true; the input reads as it did. -/
def rankSortedSpec : ChangeSpec := { name := "rankSorted", fn := fun _ => fun
  | [d1, d2, d3, d4] => { results := [.lit (.bool true)], args := [d1, d2, d3, d4] }
  | _ => none }
def rankSortedRow : OpenClaim := { program := "ytgmfmlcpogbolaa", sum := "95472d459783b502994d38573c9c0c6d1aa5761693ce735ac9218534dc7e3931", func := "variantproxy/variantproxylaw14.RankSorted", spec := "rankSorted", inPlace := ["internal/bytealg.IndexByteString", "internal/bytealg.IndexString", "internal/bytealg.CountString", "slices.overlaps[variantproxy/rank.level]"], unfollowed := true, recurses := true, named := ["internal/bytealg.MaxLen"], plainKeys := false, apart := false }
def RankSortedSaid : Prop := rankSortedRow.holds Try.pinned (OpenSpec.ofChange rankSortedSpec)

/-- ITS FALSE NEIGHBOUR: 'it returns false'. Refute it at one input. -/
def rankSortedWrong : ChangeSpec := { name := "rankSorted", fn := fun _ => fun
  | [d1, d2, d3, d4] => { results := [.lit (.bool false)], args := [d1, d2, d3, d4] }
  | _ => none }
def RankSortedWrongFalsely : Prop := rankSortedRow.holds Try.pinned (OpenSpec.ofChange rankSortedWrong)

/-- 'variantproxylaw14.RankExcludes': WHATEVER THE INPUT: true; the input reads as it did. -/
def rankExcludesSpec : ChangeSpec := { name := "rankExcludes", fn := fun _ => fun
  | [d1, d2, d3] => { results := [.lit (.bool true)], args := [d1, d2, d3] }
  | _ => none }
def rankExcludesRow : OpenClaim := { program := "ytgmfmlcpogbolaa", sum := "95472d459783b502994d38573c9c0c6d1aa5761693ce735ac9218534dc7e3931", func := "variantproxy/variantproxylaw14.RankExcludes", spec := "rankExcludes", inPlace := ["internal/bytealg.IndexByteString", "internal/bytealg.IndexString", "internal/bytealg.CountString", "slices.overlaps[variantproxy/rank.level]"], unfollowed := true, recurses := true, named := ["internal/bytealg.MaxLen"], plainKeys := false, apart := false }
def RankExcludesSaid : Prop := rankExcludesRow.holds Try.pinned (OpenSpec.ofChange rankExcludesSpec)

/-- ITS FALSE NEIGHBOUR: 'it returns false'. Refute it at one input. -/
def rankExcludesWrong : ChangeSpec := { name := "rankExcludes", fn := fun _ => fun
  | [d1, d2, d3] => { results := [.lit (.bool false)], args := [d1, d2, d3] }
  | _ => none }
def RankExcludesWrongFalsely : Prop := rankExcludesRow.holds Try.pinned (OpenSpec.ofChange rankExcludesWrong)

/-- 'variantproxylaw14.RankOrderless': WHATEVER THE INPUT: true; the input reads as it did. -/
def rankOrderlessSpec : ChangeSpec := { name := "rankOrderless", fn := fun _ => fun
  | [d1, d2, d3, d4, d5] => { results := [.lit (.bool true)], args := [d1, d2, d3, d4, d5] }
  | _ => none }
def rankOrderlessRow : OpenClaim := { program := "ytgmfmlcpogbolaa", sum := "95472d459783b502994d38573c9c0c6d1aa5761693ce735ac9218534dc7e3931", func := "variantproxy/variantproxylaw14.RankOrderless", spec := "rankOrderless", inPlace := ["internal/bytealg.IndexByteString", "internal/bytealg.IndexString", "internal/bytealg.CountString", "slices.overlaps[variantproxy/rank.level]"], unfollowed := true, recurses := true, named := ["internal/bytealg.MaxLen"], plainKeys := false, apart := false }
def RankOrderlessSaid : Prop := rankOrderlessRow.holds Try.pinned (OpenSpec.ofChange rankOrderlessSpec)

/-- ITS FALSE NEIGHBOUR: 'it returns false'. Refute it at one input. -/
def rankOrderlessWrong : ChangeSpec := { name := "rankOrderless", fn := fun _ => fun
  | [d1, d2, d3, d4, d5] => { results := [.lit (.bool false)], args := [d1, d2, d3, d4, d5] }
  | _ => none }
def RankOrderlessWrongFalsely : Prop := rankOrderlessRow.holds Try.pinned (OpenSpec.ofChange rankOrderlessWrong)

/- THE SECOND FORM. 'bulk': how many values and letters a reading holds, each counted each time it is reached (what is shared counts as often as it is met; a slice's spare places count too). A statement '..UptoSaid' is the law's where the arguments, and the package variables that the reading takes, are together of bulk at most 1048576: NARROWER than '..Said'. Prove '..Said' where nothing that the law and all that it calls make is longer than what came in: it says more and counts as full. Else prove '..UptoSaid'. A law counts once. -/
mutual
def uptoBulk {H : Type} : DataW H → Nat
  | .lit (.string bytes) => bytes.length + 1
  | .lit _ => 1
  | .nil => 1
  | .ptr d => uptoBulk d + 1
  | .slice elems spare => uptoBulkAll elems + uptoBulkAll spare + 1
  | .agg parts => uptoBulkAll parts + 1
  | .iface _ d => uptoBulk d + 1
  | .map entries => uptoBulkEntries entries + 1
  | .held _ => 1
def uptoBulkAll {H : Type} : List (DataW H) → Nat
  | [] => 0
  | d :: r => uptoBulk d + uptoBulkAll r
def uptoBulkEntries {H : Type} : List (Lit × DataW H) → Nat
  | [] => 0
  | x :: r => uptoBulkEntry x + uptoBulkEntries r
def uptoBulkEntry {H : Type} : Lit × DataW H → Nat
  | (.string bytes, d) => bytes.length + uptoBulk d + 1
  | (_, d) => uptoBulk d + 1
 end
def uptoSmall : (H : Type) → List (DataW H) → Bool := fun _ ds => decide (uptoBulkAll ds ≤ 1048576)
def OpenSpec.upto (s : _root_.Go.ChangeSpec) : _root_.Go.OpenSpec := { _root_.Go.OpenSpec.ofChange s with cond := some uptoSmall }

/-- 'variantproxylaw14.RankQualities', WHERE WHAT IT READS IS OF BULK AT MOST 1048576: true; the input reads as it did. -/
def rankQualitiesUptoRow : OpenClaim := { program := "ytgmfmlcpogbolaa", sum := "95472d459783b502994d38573c9c0c6d1aa5761693ce735ac9218534dc7e3931", func := "variantproxy/variantproxylaw14.RankQualities", spec := "rankQualities", inPlace := ["internal/bytealg.IndexByteString", "internal/bytealg.IndexString", "internal/bytealg.CountString", "slices.overlaps[variantproxy/rank.level]"], unfollowed := true, recurses := true, named := ["internal/bytealg.MaxLen"], plainKeys := false, apart := false, narrowed := true }
def RankQualitiesUptoSaid : Prop := rankQualitiesUptoRow.holds Try.pinned (OpenSpec.upto rankQualitiesSpec)

/-- 'variantproxylaw14.RankSorted', WHERE WHAT IT READS IS OF BULK AT MOST 1048576: true; the input reads as it did. -/
def rankSortedUptoRow : OpenClaim := { program := "ytgmfmlcpogbolaa", sum := "95472d459783b502994d38573c9c0c6d1aa5761693ce735ac9218534dc7e3931", func := "variantproxy/variantproxylaw14.RankSorted", spec := "rankSorted", inPlace := ["internal/bytealg.IndexByteString", "internal/bytealg.IndexString", "internal/bytealg.CountString", "slices.overlaps[variantproxy/rank.level]"], unfollowed := true, recurses := true, named := ["internal/bytealg.MaxLen"], plainKeys := false, apart := false, narrowed := true }
def RankSortedUptoSaid : Prop := rankSortedUptoRow.holds Try.pinned (OpenSpec.upto rankSortedSpec)

/-- 'variantproxylaw14.RankExcludes', WHERE WHAT IT READS IS OF BULK AT MOST 1048576: true; the input reads as it did. -/
def rankExcludesUptoRow : OpenClaim := { program := "ytgmfmlcpogbolaa", sum := "95472d459783b502994d38573c9c0c6d1aa5761693ce735ac9218534dc7e3931", func := "variantproxy/variantproxylaw14.RankExcludes", spec := "rankExcludes", inPlace := ["internal/bytealg.IndexByteString", "internal/bytealg.IndexString", "internal/bytealg.CountString", "slices.overlaps[variantproxy/rank.level]"], unfollowed := true, recurses := true, named := ["internal/bytealg.MaxLen"], plainKeys := false, apart := false, narrowed := true }
def RankExcludesUptoSaid : Prop := rankExcludesUptoRow.holds Try.pinned (OpenSpec.upto rankExcludesSpec)

/-- 'variantproxylaw14.RankOrderless', WHERE WHAT IT READS IS OF BULK AT MOST 1048576: true; the input reads as it did. -/
def rankOrderlessUptoRow : OpenClaim := { program := "ytgmfmlcpogbolaa", sum := "95472d459783b502994d38573c9c0c6d1aa5761693ce735ac9218534dc7e3931", func := "variantproxy/variantproxylaw14.RankOrderless", spec := "rankOrderless", inPlace := ["internal/bytealg.IndexByteString", "internal/bytealg.IndexString", "internal/bytealg.CountString", "slices.overlaps[variantproxy/rank.level]"], unfollowed := true, recurses := true, named := ["internal/bytealg.MaxLen"], plainKeys := false, apart := false, narrowed := true }
def RankOrderlessUptoSaid : Prop := rankOrderlessUptoRow.holds Try.pinned (OpenSpec.upto rankOrderlessSpec)

end Rows
end Go.Proofs.Ytgmfmlcpogbolaa
