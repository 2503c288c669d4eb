/-
  DERIVED. GIVEN WITH THE SEED: THE CARDS: each row of YtklfpkaemnhdhaaGreatDoorRows.lean that lists a variable, with what it lists TIED to the program's text (the seventh form; the later family's looks); each row that meets fmt, with fmt's text TOLD by the authors' own Lean function (tested against real Go, not proved from fmt's source: count such statements apart). THE CARD IS WHAT COUNTS. Prove the row's statement (the work); the ties are given (YtklfpkaemnhdhaaGreatDoorTie.lean); close each card by the builder's one call (the guide's Derived/Test/ToyasCard.lean, 'card_holds'). Laid BY PROGRAM, IN A SANDBOX (cutbox-door.mjs). By AI agents, Wed Nov 11 2026. No macro, syntax, notation, axiom, sorry.
-/
import Derived.Test.YtklfpkaemnhdhaaGreatDoorRows
import GoSem.ClaimSeven
namespace Go.Proofs.YtklfpkaemnhdhaaGreatDoor
namespace Rows

/-- THE TIED CARD OF 'variantproxylaw18.ClassClasses'. -/
def classClassesCard : Claim7 := { stood := { row := classClassesRow, standIns := [], harness := (true, "fbb82f6ba14e15cdcfab81d380dfff9aacde621d2d37bf57623a9c3ac9ab3a60"), looks := false }, kinds := [], alts := [], laidByText := true, laidKinds := [.data], laidTests := true, laidLooks := .later }
def ClassClassesCardSaid : Prop := Claim7.holds Tryz.pinned (.plain (OpenSpec.ofChange classClassesSpec)) classClassesCard

/-- THE TIED CARD OF 'variantproxylaw18.ClassNormalizes'. -/
def classNormalizesCard : Claim7 := { stood := { row := classNormalizesRow, standIns := [], harness := (true, "fbb82f6ba14e15cdcfab81d380dfff9aacde621d2d37bf57623a9c3ac9ab3a60"), looks := false }, kinds := [], alts := [], laidByText := true, laidKinds := [.data], laidTests := true, laidLooks := .later }
def ClassNormalizesCardSaid : Prop := Claim7.holds Tryz.pinned (.plain (OpenSpec.ofChange classNormalizesSpec)) classNormalizesCard

/-- THE TIED CARD OF 'variantproxylaw18.ClassDecides'. -/
def classDecidesCard : Claim7 := { stood := { row := classDecidesRow, standIns := [], harness := (true, "fbb82f6ba14e15cdcfab81d380dfff9aacde621d2d37bf57623a9c3ac9ab3a60"), looks := false }, kinds := [], alts := [], laidByText := true, laidKinds := [.data], laidTests := true, laidLooks := .later }
def ClassDecidesCardSaid : Prop := Claim7.holds Tryz.pinned (.plain (OpenSpec.ofChange classDecidesSpec)) classDecidesCard

/-- THE TIED CARD OF 'variantproxylaw18.ClassLines'. -/
def classLinesCard : Claim7 := { stood := { row := classLinesRow, standIns := [], harness := (true, "fbb82f6ba14e15cdcfab81d380dfff9aacde621d2d37bf57623a9c3ac9ab3a60"), looks := false }, kinds := [], alts := [], laidByText := true, laidKinds := [.data], laidTests := true, laidLooks := .later }
def ClassLinesCardSaid : Prop := Claim7.holds Tryz.pinned (.plain (OpenSpec.ofChange classLinesSpec)) classLinesCard

/-- THE TIED CARD OF 'variantproxylaw18.ClassCases'. -/
def classCasesCard : Claim7 := { stood := { row := classCasesRow, standIns := [], harness := (true, "fbb82f6ba14e15cdcfab81d380dfff9aacde621d2d37bf57623a9c3ac9ab3a60"), looks := false }, kinds := [], alts := [], laidByText := true, laidKinds := [.data], laidTests := true, laidLooks := .later }
def ClassCasesCardSaid : Prop := Claim7.holds Tryz.pinned (.plain (OpenSpec.ofChange classCasesSpec)) classCasesCard

/-- THE TIED CARD OF 'variantproxylaw18.ClassUnavailable'. -/
def classUnavailableCard : Claim7 := { stood := { row := classUnavailableRow, standIns := [], harness := (true, "fbb82f6ba14e15cdcfab81d380dfff9aacde621d2d37bf57623a9c3ac9ab3a60"), looks := false }, kinds := [], alts := [], laidByText := true, laidKinds := [.data], laidTests := true, laidLooks := .later }
def ClassUnavailableCardSaid : Prop := Claim7.holds Tryz.pinned (.plain (OpenSpec.ofChange classUnavailableSpec)) classUnavailableCard

/-- THE TIED CARD OF 'variantproxylaw18.ClassNormal'. -/
def classNormalCard : Claim7 := { stood := { row := classNormalRow, standIns := [], harness := (true, "fbb82f6ba14e15cdcfab81d380dfff9aacde621d2d37bf57623a9c3ac9ab3a60"), looks := false }, kinds := [], alts := [], laidByText := true, laidKinds := [.data], laidTests := true, laidLooks := .later }
def ClassNormalCardSaid : Prop := Claim7.holds Tryz.pinned (.plain (OpenSpec.ofChange classNormalSpec)) classNormalCard

/-- THE SECOND FORM's CARD OF 'variantproxylaw18.ClassClasses'. -/
def classClassesUptoCard : Claim7 := { stood := { row := classClassesUptoRow, standIns := [], harness := (true, "fbb82f6ba14e15cdcfab81d380dfff9aacde621d2d37bf57623a9c3ac9ab3a60"), looks := false }, kinds := [], alts := [], laidByText := true, laidKinds := [.data], laidTests := true, laidLooks := .later }
def ClassClassesUptoCardSaid : Prop := Claim7.holds Tryz.pinned (.plain (OpenSpec.upto classClassesSpec)) classClassesUptoCard

/-- THE SECOND FORM's CARD OF 'variantproxylaw18.ClassNormalizes'. -/
def classNormalizesUptoCard : Claim7 := { stood := { row := classNormalizesUptoRow, standIns := [], harness := (true, "fbb82f6ba14e15cdcfab81d380dfff9aacde621d2d37bf57623a9c3ac9ab3a60"), looks := false }, kinds := [], alts := [], laidByText := true, laidKinds := [.data], laidTests := true, laidLooks := .later }
def ClassNormalizesUptoCardSaid : Prop := Claim7.holds Tryz.pinned (.plain (OpenSpec.upto classNormalizesSpec)) classNormalizesUptoCard

/-- THE SECOND FORM's CARD OF 'variantproxylaw18.ClassDecides'. -/
def classDecidesUptoCard : Claim7 := { stood := { row := classDecidesUptoRow, standIns := [], harness := (true, "fbb82f6ba14e15cdcfab81d380dfff9aacde621d2d37bf57623a9c3ac9ab3a60"), looks := false }, kinds := [], alts := [], laidByText := true, laidKinds := [.data], laidTests := true, laidLooks := .later }
def ClassDecidesUptoCardSaid : Prop := Claim7.holds Tryz.pinned (.plain (OpenSpec.upto classDecidesSpec)) classDecidesUptoCard

/-- THE SECOND FORM's CARD OF 'variantproxylaw18.ClassLines'. -/
def classLinesUptoCard : Claim7 := { stood := { row := classLinesUptoRow, standIns := [], harness := (true, "fbb82f6ba14e15cdcfab81d380dfff9aacde621d2d37bf57623a9c3ac9ab3a60"), looks := false }, kinds := [], alts := [], laidByText := true, laidKinds := [.data], laidTests := true, laidLooks := .later }
def ClassLinesUptoCardSaid : Prop := Claim7.holds Tryz.pinned (.plain (OpenSpec.upto classLinesSpec)) classLinesUptoCard

/-- THE SECOND FORM's CARD OF 'variantproxylaw18.ClassCases'. -/
def classCasesUptoCard : Claim7 := { stood := { row := classCasesUptoRow, standIns := [], harness := (true, "fbb82f6ba14e15cdcfab81d380dfff9aacde621d2d37bf57623a9c3ac9ab3a60"), looks := false }, kinds := [], alts := [], laidByText := true, laidKinds := [.data], laidTests := true, laidLooks := .later }
def ClassCasesUptoCardSaid : Prop := Claim7.holds Tryz.pinned (.plain (OpenSpec.upto classCasesSpec)) classCasesUptoCard

/-- THE SECOND FORM's CARD OF 'variantproxylaw18.ClassUnavailable'. -/
def classUnavailableUptoCard : Claim7 := { stood := { row := classUnavailableUptoRow, standIns := [], harness := (true, "fbb82f6ba14e15cdcfab81d380dfff9aacde621d2d37bf57623a9c3ac9ab3a60"), looks := false }, kinds := [], alts := [], laidByText := true, laidKinds := [.data], laidTests := true, laidLooks := .later }
def ClassUnavailableUptoCardSaid : Prop := Claim7.holds Tryz.pinned (.plain (OpenSpec.upto classUnavailableSpec)) classUnavailableUptoCard

/-- THE SECOND FORM's CARD OF 'variantproxylaw18.ClassNormal'. -/
def classNormalUptoCard : Claim7 := { stood := { row := classNormalUptoRow, standIns := [], harness := (true, "fbb82f6ba14e15cdcfab81d380dfff9aacde621d2d37bf57623a9c3ac9ab3a60"), looks := false }, kinds := [], alts := [], laidByText := true, laidKinds := [.data], laidTests := true, laidLooks := .later }
def ClassNormalUptoCardSaid : Prop := Claim7.holds Tryz.pinned (.plain (OpenSpec.upto classNormalSpec)) classNormalUptoCard
end Rows
end Go.Proofs.YtklfpkaemnhdhaaGreatDoor
