/-
  DERIVED. GIVEN WITH THE SEED: THE CARDS: each row of YtnpllgjkbpnimaaDoorRows.lean that lists a variable, with what it lists TIED to the program's text (the seventh form; the later family's looks); each row that meets fmt, with fmt's text TOLD by the authors' own Lean function (tested against real Go, not proved from fmt's source: count such statements apart). THE CARD IS WHAT COUNTS. Prove the row's statement (the work); the ties are given (YtnpllgjkbpnimaaDoorTie.lean); close each card by the builder's one call (the guide's Derived/Test/ToyasCard.lean, 'card_holds'). Laid BY PROGRAM, IN A SANDBOX (cutbox-door.mjs). By AI agents, Wed Nov 11 2026. No macro, syntax, notation, axiom, sorry.
-/
import Derived.Test.YtnpllgjkbpnimaaDoorRows
import GoSem.ClaimSeven
namespace Go.Proofs.YtnpllgjkbpnimaaDoor
namespace Rows

/-- THE TIED CARD OF 'variantproxylaw13.AcceptKinds'. -/
def acceptKindsCard : Claim7 := { stood := { row := acceptKindsRow, standIns := [], harness := (true, "9626096f7abcaa43d64506b93e7f1f957e4f3cee329f57406014eb8f48014351"), looks := false }, kinds := [], alts := [], laidByText := true, laidKinds := [.data], laidTests := true, laidLooks := .later }
def AcceptKindsCardSaid : Prop := Claim7.holds Tryd.pinned (.plain (OpenSpec.ofChange acceptKindsSpec)) acceptKindsCard

/-- THE TIED CARD OF 'variantproxylaw13.AcceptPrefs'. -/
def acceptPrefsCard : Claim7 := { stood := { row := acceptPrefsRow, standIns := [], harness := (true, "9626096f7abcaa43d64506b93e7f1f957e4f3cee329f57406014eb8f48014351"), looks := false }, kinds := [], alts := [], laidByText := true, laidKinds := [.data], laidTests := true, laidLooks := .later }
def AcceptPrefsCardSaid : Prop := Claim7.holds Tryd.pinned (.plain (OpenSpec.ofChange acceptPrefsSpec)) acceptPrefsCard

/-- THE TIED CARD OF 'variantproxylaw13.AcceptBack'. -/
def acceptBackCard : Claim7 := { stood := { row := acceptBackRow, standIns := [], harness := (true, "9626096f7abcaa43d64506b93e7f1f957e4f3cee329f57406014eb8f48014351"), looks := false }, kinds := [], alts := [], laidByText := true, laidKinds := [.data], laidTests := true, laidLooks := .later }
def AcceptBackCardSaid : Prop := Claim7.holds Tryd.pinned (.plain (OpenSpec.ofChange acceptBackSpec)) acceptBackCard

/-- THE TIED CARD OF 'variantproxylaw13.AcceptLines'. -/
def acceptLinesCard : Claim7 := { stood := { row := acceptLinesRow, standIns := [], harness := (true, "9626096f7abcaa43d64506b93e7f1f957e4f3cee329f57406014eb8f48014351"), looks := false }, kinds := [], alts := [], laidByText := true, laidKinds := [.data], laidTests := true, laidLooks := .later }
def AcceptLinesCardSaid : Prop := Claim7.holds Tryd.pinned (.plain (OpenSpec.ofChange acceptLinesSpec)) acceptLinesCard

/-- THE SECOND FORM's CARD OF 'variantproxylaw13.AcceptKinds'. -/
def acceptKindsUptoCard : Claim7 := { stood := { row := acceptKindsUptoRow, standIns := [], harness := (true, "9626096f7abcaa43d64506b93e7f1f957e4f3cee329f57406014eb8f48014351"), looks := false }, kinds := [], alts := [], laidByText := true, laidKinds := [.data], laidTests := true, laidLooks := .later }
def AcceptKindsUptoCardSaid : Prop := Claim7.holds Tryd.pinned (.plain (OpenSpec.upto acceptKindsSpec)) acceptKindsUptoCard

/-- THE SECOND FORM's CARD OF 'variantproxylaw13.AcceptPrefs'. -/
def acceptPrefsUptoCard : Claim7 := { stood := { row := acceptPrefsUptoRow, standIns := [], harness := (true, "9626096f7abcaa43d64506b93e7f1f957e4f3cee329f57406014eb8f48014351"), looks := false }, kinds := [], alts := [], laidByText := true, laidKinds := [.data], laidTests := true, laidLooks := .later }
def AcceptPrefsUptoCardSaid : Prop := Claim7.holds Tryd.pinned (.plain (OpenSpec.upto acceptPrefsSpec)) acceptPrefsUptoCard

/-- THE SECOND FORM's CARD OF 'variantproxylaw13.AcceptBack'. -/
def acceptBackUptoCard : Claim7 := { stood := { row := acceptBackUptoRow, standIns := [], harness := (true, "9626096f7abcaa43d64506b93e7f1f957e4f3cee329f57406014eb8f48014351"), looks := false }, kinds := [], alts := [], laidByText := true, laidKinds := [.data], laidTests := true, laidLooks := .later }
def AcceptBackUptoCardSaid : Prop := Claim7.holds Tryd.pinned (.plain (OpenSpec.upto acceptBackSpec)) acceptBackUptoCard

/-- THE SECOND FORM's CARD OF 'variantproxylaw13.AcceptLines'. -/
def acceptLinesUptoCard : Claim7 := { stood := { row := acceptLinesUptoRow, standIns := [], harness := (true, "9626096f7abcaa43d64506b93e7f1f957e4f3cee329f57406014eb8f48014351"), looks := false }, kinds := [], alts := [], laidByText := true, laidKinds := [.data], laidTests := true, laidLooks := .later }
def AcceptLinesUptoCardSaid : Prop := Claim7.holds Tryd.pinned (.plain (OpenSpec.upto acceptLinesSpec)) acceptLinesUptoCard
end Rows
end Go.Proofs.YtnpllgjkbpnimaaDoor
