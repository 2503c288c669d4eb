/-
  DERIVED. GIVEN WITH THE SEED: THE CARDS: each row of YteemoibikkmlbaaDoorRows.lean that lists a variable, with what it lists TIED to the program's text (the seventh form; the later family's looks); each row that meets fmt, with fmt's text TOLD by the authors' own Lean function (tested against real Go, not proved from fmt's source: count such statements apart). THE CARD IS WHAT COUNTS. Prove the row's statement (the work); the ties are given (YteemoibikkmlbaaDoorTie.lean); close each card by the builder's one call (the guide's Derived/Test/ToyasCard.lean, 'card_holds'). Laid BY PROGRAM, IN A SANDBOX (cutbox-door.mjs). By AI agents, Wed Nov 11 2026. No macro, syntax, notation, axiom, sorry.
-/
import Derived.Test.YteemoibikkmlbaaDoorRows
import GoSem.ClaimSeven
namespace Go.Proofs.YteemoibikkmlbaaDoor
namespace Rows

/-- THE TIED CARD OF 'variantproxylaw23.FreshnessLifetimes'. -/
def freshnessLifetimesCard : Claim7 := { stood := { row := freshnessLifetimesRow, standIns := [], harness := (true, "cf38da9abea8d6001b5f9045b2343cd6074e38b4a0800bfc22b0e70e1f91ac19"), looks := false }, kinds := [], alts := [], laidByText := true, laidKinds := [.data, .data, .data], laidTests := true, laidLooks := .later }
def FreshnessLifetimesCardSaid : Prop := Claim7.holds Tryd.pinned (.plain (OpenSpec.ofChange freshnessLifetimesSpec)) freshnessLifetimesCard

/-- THE TIED CARD OF 'variantproxylaw23.FreshnessAges'. -/
def freshnessAgesCard : Claim7 := { stood := { row := freshnessAgesRow, standIns := [], harness := (true, "cf38da9abea8d6001b5f9045b2343cd6074e38b4a0800bfc22b0e70e1f91ac19"), looks := false }, kinds := [], alts := [], laidByText := true, laidKinds := [.data, .data, .data], laidTests := true, laidLooks := .later }
def FreshnessAgesCardSaid : Prop := Claim7.holds Tryd.pinned (.plain (OpenSpec.ofChange freshnessAgesSpec)) freshnessAgesCard

/-- THE TIED CARD OF 'variantproxylaw23.FreshnessDecides'. -/
def freshnessDecidesCard : Claim7 := { stood := { row := freshnessDecidesRow, standIns := [], harness := (true, "cf38da9abea8d6001b5f9045b2343cd6074e38b4a0800bfc22b0e70e1f91ac19"), looks := false }, kinds := [], alts := [], laidByText := true, laidKinds := [.data, .data, .data], laidTests := true, laidLooks := .later }
def FreshnessDecidesCardSaid : Prop := Claim7.holds Tryd.pinned (.plain (OpenSpec.ofChange freshnessDecidesSpec)) freshnessDecidesCard

/-- THE TIED CARD OF 'variantproxylaw23.FreshnessGrows'. -/
def freshnessGrowsCard : Claim7 := { stood := { row := freshnessGrowsRow, standIns := [], harness := (true, "cf38da9abea8d6001b5f9045b2343cd6074e38b4a0800bfc22b0e70e1f91ac19"), looks := false }, kinds := [], alts := [], laidByText := true, laidKinds := [.data, .data, .data], laidTests := true, laidLooks := .later }
def FreshnessGrowsCardSaid : Prop := Claim7.holds Tryd.pinned (.plain (OpenSpec.ofChange freshnessGrowsSpec)) freshnessGrowsCard

/-- THE TIED CARD OF 'variantproxylaw23.FreshnessFalls'. -/
def freshnessFallsCard : Claim7 := { stood := { row := freshnessFallsRow, standIns := [], harness := (true, "cf38da9abea8d6001b5f9045b2343cd6074e38b4a0800bfc22b0e70e1f91ac19"), looks := false }, kinds := [], alts := [], laidByText := true, laidKinds := [.data, .data, .data], laidTests := true, laidLooks := .later }
def FreshnessFallsCardSaid : Prop := Claim7.holds Tryd.pinned (.plain (OpenSpec.ofChange freshnessFallsSpec)) freshnessFallsCard

/-- THE TIED CARD OF 'variantproxylaw23.FreshnessStrict'. -/
def freshnessStrictCard : Claim7 := { stood := { row := freshnessStrictRow, standIns := [], harness := (true, "cf38da9abea8d6001b5f9045b2343cd6074e38b4a0800bfc22b0e70e1f91ac19"), looks := false }, kinds := [], alts := [], laidByText := true, laidKinds := [.data, .data, .data], laidTests := true, laidLooks := .later }
def FreshnessStrictCardSaid : Prop := Claim7.holds Tryd.pinned (.plain (OpenSpec.ofChange freshnessStrictSpec)) freshnessStrictCard

/-- THE SECOND FORM's CARD OF 'variantproxylaw23.FreshnessLifetimes'. -/
def freshnessLifetimesUptoCard : Claim7 := { stood := { row := freshnessLifetimesUptoRow, standIns := [], harness := (true, "cf38da9abea8d6001b5f9045b2343cd6074e38b4a0800bfc22b0e70e1f91ac19"), looks := false }, kinds := [], alts := [], laidByText := true, laidKinds := [.data, .data, .data], laidTests := true, laidLooks := .later }
def FreshnessLifetimesUptoCardSaid : Prop := Claim7.holds Tryd.pinned (.plain (OpenSpec.upto freshnessLifetimesSpec)) freshnessLifetimesUptoCard

/-- THE SECOND FORM's CARD OF 'variantproxylaw23.FreshnessAges'. -/
def freshnessAgesUptoCard : Claim7 := { stood := { row := freshnessAgesUptoRow, standIns := [], harness := (true, "cf38da9abea8d6001b5f9045b2343cd6074e38b4a0800bfc22b0e70e1f91ac19"), looks := false }, kinds := [], alts := [], laidByText := true, laidKinds := [.data, .data, .data], laidTests := true, laidLooks := .later }
def FreshnessAgesUptoCardSaid : Prop := Claim7.holds Tryd.pinned (.plain (OpenSpec.upto freshnessAgesSpec)) freshnessAgesUptoCard

/-- THE SECOND FORM's CARD OF 'variantproxylaw23.FreshnessDecides'. -/
def freshnessDecidesUptoCard : Claim7 := { stood := { row := freshnessDecidesUptoRow, standIns := [], harness := (true, "cf38da9abea8d6001b5f9045b2343cd6074e38b4a0800bfc22b0e70e1f91ac19"), looks := false }, kinds := [], alts := [], laidByText := true, laidKinds := [.data, .data, .data], laidTests := true, laidLooks := .later }
def FreshnessDecidesUptoCardSaid : Prop := Claim7.holds Tryd.pinned (.plain (OpenSpec.upto freshnessDecidesSpec)) freshnessDecidesUptoCard

/-- THE SECOND FORM's CARD OF 'variantproxylaw23.FreshnessGrows'. -/
def freshnessGrowsUptoCard : Claim7 := { stood := { row := freshnessGrowsUptoRow, standIns := [], harness := (true, "cf38da9abea8d6001b5f9045b2343cd6074e38b4a0800bfc22b0e70e1f91ac19"), looks := false }, kinds := [], alts := [], laidByText := true, laidKinds := [.data, .data, .data], laidTests := true, laidLooks := .later }
def FreshnessGrowsUptoCardSaid : Prop := Claim7.holds Tryd.pinned (.plain (OpenSpec.upto freshnessGrowsSpec)) freshnessGrowsUptoCard

/-- THE SECOND FORM's CARD OF 'variantproxylaw23.FreshnessFalls'. -/
def freshnessFallsUptoCard : Claim7 := { stood := { row := freshnessFallsUptoRow, standIns := [], harness := (true, "cf38da9abea8d6001b5f9045b2343cd6074e38b4a0800bfc22b0e70e1f91ac19"), looks := false }, kinds := [], alts := [], laidByText := true, laidKinds := [.data, .data, .data], laidTests := true, laidLooks := .later }
def FreshnessFallsUptoCardSaid : Prop := Claim7.holds Tryd.pinned (.plain (OpenSpec.upto freshnessFallsSpec)) freshnessFallsUptoCard

/-- THE SECOND FORM's CARD OF 'variantproxylaw23.FreshnessStrict'. -/
def freshnessStrictUptoCard : Claim7 := { stood := { row := freshnessStrictUptoRow, standIns := [], harness := (true, "cf38da9abea8d6001b5f9045b2343cd6074e38b4a0800bfc22b0e70e1f91ac19"), looks := false }, kinds := [], alts := [], laidByText := true, laidKinds := [.data, .data, .data], laidTests := true, laidLooks := .later }
def FreshnessStrictUptoCardSaid : Prop := Claim7.holds Tryd.pinned (.plain (OpenSpec.upto freshnessStrictSpec)) freshnessStrictUptoCard
end Rows
end Go.Proofs.YteemoibikkmlbaaDoor
