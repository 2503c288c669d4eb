/-
  DERIVED. GIVEN WITH THE SEED: THE PROGRAM's TIES (one call each: nine closed facts by the kernel) AND EACH ROW's TIE, after the 31st guide's Derived/Test/Toyas{Tie, Card}.lean. No idea stands in it: it is a product of the set-up. Laid BY PROGRAM, IN A SANDBOX (cutbox-door.mjs). By AI agents, Wed Nov 11 2026. No macro, syntax, notation, axiom, sorry.
-/
import Derived.Test.YtiogngfemelifaaDoorRows
import Derived.LaidByTextLater
import Derived.SevenTiedAt
import Derived.LaidSub
import Derived.LaidOnce
namespace Go.Proofs.YtiogngfemelifaaDoor
open Go
set_option maxRecDepth 100000
theorem seatTie1 : Tryd.prog.laidByTextLater [("variantproxy/date.weekdays", Rows.laid_variantproxy_date_weekdays), ("variantproxy/date.months", Rows.laid_variantproxy_date_months), ("variantproxy/date.monthLengths", Rows.laid_variantproxy_date_monthLengths)] [.data, .data, .data] true :=
  Program.laidByTextLater_by_one 24 8 13 (by kernel_rfl) (by kernel_rfl) (by kernel_rfl) (by kernel_rfl) (by kernel_rfl) (by kernel_rfl) (fun _ _ => by kernel_rfl)
theorem noOwnUnsafe : Tryd.pinned.checked.prog.headLifts.contains "ownunsafe" = false := by kernel_rfl
theorem tie : Tryd.prog.laidByTextLater [("variantproxy/date.weekdays", Rows.laid_variantproxy_date_weekdays), ("variantproxy/date.months", Rows.laid_variantproxy_date_months), ("variantproxy/date.monthLengths", Rows.laid_variantproxy_date_monthLengths)] [.data, .data, .data] true :=
  Program.laidByTextLater.sub seatTie1 ["variantproxy/date.weekdays", "variantproxy/date.months", "variantproxy/date.monthLengths"] (by kernel_rfl) (by kernel_rfl)
theorem storableNever_row_tie : Rows.storableNeverRow.laidByTextAt .later Tryd.pinned [.data, .data, .data] true :=
  OpenClaim.laidByTextAt_later rfl rfl tie noOwnUnsafe
theorem storableNeverUpto_row_tie : Rows.storableNeverUptoRow.laidByTextAt .later Tryd.pinned [.data, .data, .data] true :=
  OpenClaim.laidByTextAt_later rfl rfl tie noOwnUnsafe
end Go.Proofs.YtiogngfemelifaaDoor
