/-
  DERIVED. GIVEN WITH THE SEED: THE CARDS: each row of YtjjlgnackjjbfaaGreatDoorRows.lean that lists a variable, with what it lists TIED to the program's text (the seventh form; the later family's looks); each row that meets fmt, with fmt's text TOLD by the authors' own Lean function (tested against real Go, not proved from fmt's source: count such statements apart). THE CARD IS WHAT COUNTS. Prove the row's statement (the work); the ties are given (YtjjlgnackjjbfaaGreatDoorTie.lean); close each card by the builder's one call (the guide's Derived/Test/ToyasCard.lean, 'card_holds'). Laid BY PROGRAM, IN A SANDBOX (cutbox-door.mjs). By AI agents, Wed Nov 11 2026. No macro, syntax, notation, axiom, sorry.
-/
import Derived.Test.YtjjlgnackjjbfaaGreatDoorRows
import GoSem.ClaimSeven
namespace Go.Proofs.YtjjlgnackjjbfaaGreatDoor
namespace Rows

/-- THE TIED CARD OF 'variantproxylaw17.SelectionRanks'. -/
def selectionRanksCard : Claim7 := { stood := { row := selectionRanksRow, standIns := [], harness := (true, "5ffda0071205f33895e5ca7b52bb35693b804f9af41a22f01901df24b3c59af7"), looks := false }, kinds := [], alts := [], laidByText := true, laidKinds := [.data], laidTests := true, laidLooks := .later }
def SelectionRanksCardSaid : Prop := Claim7.holds Tryz.pinned (.plain (OpenSpec.ofChange selectionRanksSpec)) selectionRanksCard

/-- THE TIED CARD OF 'variantproxylaw17.SelectionKeys'. -/
def selectionKeysCard : Claim7 := { stood := { row := selectionKeysRow, standIns := [], harness := (true, "5ffda0071205f33895e5ca7b52bb35693b804f9af41a22f01901df24b3c59af7"), looks := false }, kinds := [], alts := [], laidByText := true, laidKinds := [.data], laidTests := true, laidLooks := .later }
def SelectionKeysCardSaid : Prop := Claim7.holds Tryz.pinned (.plain (OpenSpec.ofChange selectionKeysSpec)) selectionKeysCard

/-- THE TIED CARD OF 'variantproxylaw17.SelectionDefaults'. -/
def selectionDefaultsCard : Claim7 := { stood := { row := selectionDefaultsRow, standIns := [], harness := (true, "5ffda0071205f33895e5ca7b52bb35693b804f9af41a22f01901df24b3c59af7"), looks := false }, kinds := [], alts := [], laidByText := true, laidKinds := [.data], laidTests := true, laidLooks := .later }
def SelectionDefaultsCardSaid : Prop := Claim7.holds Tryz.pinned (.plain (OpenSpec.ofChange selectionDefaultsSpec)) selectionDefaultsCard

/-- THE TIED CARD OF 'variantproxylaw17.SelectionAcceptable'. -/
def selectionAcceptableCard : Claim7 := { stood := { row := selectionAcceptableRow, standIns := [], harness := (true, "5ffda0071205f33895e5ca7b52bb35693b804f9af41a22f01901df24b3c59af7"), looks := false }, kinds := [], alts := [], laidByText := true, laidKinds := [.data], laidTests := true, laidLooks := .later }
def SelectionAcceptableCardSaid : Prop := Claim7.holds Tryz.pinned (.plain (OpenSpec.ofChange selectionAcceptableSpec)) selectionAcceptableCard

/-- THE TIED CARD OF 'variantproxylaw17.SelectionProduct'. -/
def selectionProductCard : Claim7 := { stood := { row := selectionProductRow, standIns := [], harness := (true, "5ffda0071205f33895e5ca7b52bb35693b804f9af41a22f01901df24b3c59af7"), looks := false }, kinds := [], alts := [], laidByText := true, laidKinds := [.data], laidTests := true, laidLooks := .later }
def SelectionProductCardSaid : Prop := Claim7.holds Tryz.pinned (.plain (OpenSpec.ofChange selectionProductSpec)) selectionProductCard

/-- THE TIED CARD OF 'variantproxylaw17.SelectionIgnores'. -/
def selectionIgnoresCard : Claim7 := { stood := { row := selectionIgnoresRow, standIns := [], harness := (true, "5ffda0071205f33895e5ca7b52bb35693b804f9af41a22f01901df24b3c59af7"), looks := false }, kinds := [], alts := [], laidByText := true, laidKinds := [.data], laidTests := true, laidLooks := .later }
def SelectionIgnoresCardSaid : Prop := Claim7.holds Tryz.pinned (.plain (OpenSpec.ofChange selectionIgnoresSpec)) selectionIgnoresCard

/-- THE SECOND FORM's CARD OF 'variantproxylaw17.SelectionRanks'. -/
def selectionRanksUptoCard : Claim7 := { stood := { row := selectionRanksUptoRow, standIns := [], harness := (true, "5ffda0071205f33895e5ca7b52bb35693b804f9af41a22f01901df24b3c59af7"), looks := false }, kinds := [], alts := [], laidByText := true, laidKinds := [.data], laidTests := true, laidLooks := .later }
def SelectionRanksUptoCardSaid : Prop := Claim7.holds Tryz.pinned (.plain (OpenSpec.upto selectionRanksSpec)) selectionRanksUptoCard

/-- THE SECOND FORM's CARD OF 'variantproxylaw17.SelectionKeys'. -/
def selectionKeysUptoCard : Claim7 := { stood := { row := selectionKeysUptoRow, standIns := [], harness := (true, "5ffda0071205f33895e5ca7b52bb35693b804f9af41a22f01901df24b3c59af7"), looks := false }, kinds := [], alts := [], laidByText := true, laidKinds := [.data], laidTests := true, laidLooks := .later }
def SelectionKeysUptoCardSaid : Prop := Claim7.holds Tryz.pinned (.plain (OpenSpec.upto selectionKeysSpec)) selectionKeysUptoCard

/-- THE SECOND FORM's CARD OF 'variantproxylaw17.SelectionDefaults'. -/
def selectionDefaultsUptoCard : Claim7 := { stood := { row := selectionDefaultsUptoRow, standIns := [], harness := (true, "5ffda0071205f33895e5ca7b52bb35693b804f9af41a22f01901df24b3c59af7"), looks := false }, kinds := [], alts := [], laidByText := true, laidKinds := [.data], laidTests := true, laidLooks := .later }
def SelectionDefaultsUptoCardSaid : Prop := Claim7.holds Tryz.pinned (.plain (OpenSpec.upto selectionDefaultsSpec)) selectionDefaultsUptoCard

/-- THE SECOND FORM's CARD OF 'variantproxylaw17.SelectionAcceptable'. -/
def selectionAcceptableUptoCard : Claim7 := { stood := { row := selectionAcceptableUptoRow, standIns := [], harness := (true, "5ffda0071205f33895e5ca7b52bb35693b804f9af41a22f01901df24b3c59af7"), looks := false }, kinds := [], alts := [], laidByText := true, laidKinds := [.data], laidTests := true, laidLooks := .later }
def SelectionAcceptableUptoCardSaid : Prop := Claim7.holds Tryz.pinned (.plain (OpenSpec.upto selectionAcceptableSpec)) selectionAcceptableUptoCard

/-- THE SECOND FORM's CARD OF 'variantproxylaw17.SelectionProduct'. -/
def selectionProductUptoCard : Claim7 := { stood := { row := selectionProductUptoRow, standIns := [], harness := (true, "5ffda0071205f33895e5ca7b52bb35693b804f9af41a22f01901df24b3c59af7"), looks := false }, kinds := [], alts := [], laidByText := true, laidKinds := [.data], laidTests := true, laidLooks := .later }
def SelectionProductUptoCardSaid : Prop := Claim7.holds Tryz.pinned (.plain (OpenSpec.upto selectionProductSpec)) selectionProductUptoCard

/-- THE SECOND FORM's CARD OF 'variantproxylaw17.SelectionIgnores'. -/
def selectionIgnoresUptoCard : Claim7 := { stood := { row := selectionIgnoresUptoRow, standIns := [], harness := (true, "5ffda0071205f33895e5ca7b52bb35693b804f9af41a22f01901df24b3c59af7"), looks := false }, kinds := [], alts := [], laidByText := true, laidKinds := [.data], laidTests := true, laidLooks := .later }
def SelectionIgnoresUptoCardSaid : Prop := Claim7.holds Tryz.pinned (.plain (OpenSpec.upto selectionIgnoresSpec)) selectionIgnoresUptoCard
end Rows
end Go.Proofs.YtjjlgnackjjbfaaGreatDoor
