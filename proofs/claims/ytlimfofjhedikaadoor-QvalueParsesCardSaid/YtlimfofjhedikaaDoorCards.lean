/-
  DERIVED. GIVEN WITH THE SEED: THE CARDS: each row of YtlimfofjhedikaaDoorRows.lean that lists a variable, with what it lists TIED to the program's text (the seventh form; the later family's looks); each row that meets fmt, with fmt's text TOLD by the authors' own Lean function (tested against real Go, not proved from fmt's source: count such statements apart). THE CARD IS WHAT COUNTS. Prove the row's statement (the work); the ties are given (YtlimfofjhedikaaDoorTie.lean); close each card by the builder's one call (the guide's Derived/Test/ToyasCard.lean, 'card_holds'). Laid BY PROGRAM, IN A SANDBOX (cutbox-door.mjs). By AI agents, Wed Nov 11 2026. No macro, syntax, notation, axiom, sorry.
-/
import Derived.Test.YtlimfofjhedikaaDoorRows
import GoSem.ClaimSeven
namespace Go.Proofs.YtlimfofjhedikaaDoor
namespace Rows

/-- THE TIED CARD OF 'variantproxylaw08.QvalueParses'. -/
def qvalueParsesCard : Claim7 := { stood := { row := qvalueParsesRow, standIns := [], harness := (true, "151ed4bfd6b86e3ae9015dd4ae8af85d3472edcad0c4b04437b11b6c32e9599d"), looks := false }, kinds := [], alts := [], laidByText := true, laidKinds := [.data], laidTests := true, laidLooks := .later }
def QvalueParsesCardSaid : Prop := Claim7.holds Tryd.pinned (.plain (OpenSpec.ofChange qvalueParsesSpec)) qvalueParsesCard

/-- THE TIED CARD OF 'variantproxylaw08.QvalueFormats'. -/
def qvalueFormatsCard : Claim7 := { stood := { row := qvalueFormatsRow, standIns := [], harness := (true, "151ed4bfd6b86e3ae9015dd4ae8af85d3472edcad0c4b04437b11b6c32e9599d"), looks := false }, kinds := [], alts := [], laidByText := true, laidKinds := [.data], laidTests := true, laidLooks := .later }
def QvalueFormatsCardSaid : Prop := Claim7.holds Tryd.pinned (.plain (OpenSpec.ofChange qvalueFormatsSpec)) qvalueFormatsCard

/-- THE TIED CARD OF 'variantproxylaw08.QvalueZeros'. -/
def qvalueZerosCard : Claim7 := { stood := { row := qvalueZerosRow, standIns := [], harness := (true, "151ed4bfd6b86e3ae9015dd4ae8af85d3472edcad0c4b04437b11b6c32e9599d"), looks := false }, kinds := [], alts := [], laidByText := true, laidKinds := [.data], laidTests := true, laidLooks := .later }
def QvalueZerosCardSaid : Prop := Claim7.holds Tryd.pinned (.plain (OpenSpec.ofChange qvalueZerosSpec)) qvalueZerosCard

/-- THE SECOND FORM's CARD OF 'variantproxylaw08.QvalueParses'. -/
def qvalueParsesUptoCard : Claim7 := { stood := { row := qvalueParsesUptoRow, standIns := [], harness := (true, "151ed4bfd6b86e3ae9015dd4ae8af85d3472edcad0c4b04437b11b6c32e9599d"), looks := false }, kinds := [], alts := [], laidByText := true, laidKinds := [.data], laidTests := true, laidLooks := .later }
def QvalueParsesUptoCardSaid : Prop := Claim7.holds Tryd.pinned (.plain (OpenSpec.upto qvalueParsesSpec)) qvalueParsesUptoCard

/-- THE SECOND FORM's CARD OF 'variantproxylaw08.QvalueFormats'. -/
def qvalueFormatsUptoCard : Claim7 := { stood := { row := qvalueFormatsUptoRow, standIns := [], harness := (true, "151ed4bfd6b86e3ae9015dd4ae8af85d3472edcad0c4b04437b11b6c32e9599d"), looks := false }, kinds := [], alts := [], laidByText := true, laidKinds := [.data], laidTests := true, laidLooks := .later }
def QvalueFormatsUptoCardSaid : Prop := Claim7.holds Tryd.pinned (.plain (OpenSpec.upto qvalueFormatsSpec)) qvalueFormatsUptoCard

/-- THE SECOND FORM's CARD OF 'variantproxylaw08.QvalueZeros'. -/
def qvalueZerosUptoCard : Claim7 := { stood := { row := qvalueZerosUptoRow, standIns := [], harness := (true, "151ed4bfd6b86e3ae9015dd4ae8af85d3472edcad0c4b04437b11b6c32e9599d"), looks := false }, kinds := [], alts := [], laidByText := true, laidKinds := [.data], laidTests := true, laidLooks := .later }
def QvalueZerosUptoCardSaid : Prop := Claim7.holds Tryd.pinned (.plain (OpenSpec.upto qvalueZerosSpec)) qvalueZerosUptoCard
end Rows
end Go.Proofs.YtlimfofjhedikaaDoor
