/-
  DERIVED. GIVEN WITH THE SEED: THE CARDS: each row of YtnpllgjkbpnimaaGreatDoorRows.lean that lists a variable, with what it lists TIED to the program's text (the seventh form; the later family's looks); each row that meets fmt, with fmt's text TOLD by the authors' own Lean function (tested against real Go, not proved from fmt's source: count such statements apart). THE CARD IS WHAT COUNTS. Prove the row's statement (the work); the ties are given (YtnpllgjkbpnimaaGreatDoorTie.lean); close each card by the builder's one call (the guide's Derived/Test/ToyasCard.lean, 'card_holds'). Laid BY PROGRAM, IN A SANDBOX (cutbox-door.mjs). By AI agents, Wed Nov 11 2026. No macro, syntax, notation, axiom, sorry.
-/
import Derived.Test.YtnpllgjkbpnimaaGreatDoorRows
import GoSem.ClaimSeven
namespace Go.Proofs.YtnpllgjkbpnimaaGreatDoor
namespace Rows

/-- THE TIED CARD OF 'variantproxylaw13.AcceptMatches'. -/
def acceptMatchesCard : Claim7 := { stood := { row := acceptMatchesRow, standIns := [], harness := (true, "064f7cd1f1d9e5605ea2a2bb52f24608efd840e59aa4cdf30b3f47fb8004c677"), looks := false }, kinds := [], alts := [], laidByText := true, laidKinds := [.data], laidTests := true, laidLooks := .later }
def AcceptMatchesCardSaid : Prop := Claim7.holds Tryz.pinned (.plain (OpenSpec.ofChange acceptMatchesSpec)) acceptMatchesCard

/-- THE SECOND FORM's CARD OF 'variantproxylaw13.AcceptMatches'. -/
def acceptMatchesUptoCard : Claim7 := { stood := { row := acceptMatchesUptoRow, standIns := [], harness := (true, "064f7cd1f1d9e5605ea2a2bb52f24608efd840e59aa4cdf30b3f47fb8004c677"), looks := false }, kinds := [], alts := [], laidByText := true, laidKinds := [.data], laidTests := true, laidLooks := .later }
def AcceptMatchesUptoCardSaid : Prop := Claim7.holds Tryz.pinned (.plain (OpenSpec.upto acceptMatchesSpec)) acceptMatchesUptoCard
end Rows
end Go.Proofs.YtnpllgjkbpnimaaGreatDoor
