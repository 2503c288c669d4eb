/- What a row that lists the table of weights gives the walks; and a start that meets the condition. -/
import Derived.Test.YtlimfofjhedikaaDoorQvaMine
import Derived.Lib.LaidTab
import Derived.LaidMore
set_option linter.unusedVariables false
set_option linter.unusedSimpArgs false
set_option maxRecDepth 100000
namespace Go.Proofs.YtlimfofjhedikaaDoor.Asc
open Go.RowKit

theorem cell_size {w : World} {a : Addr} {v : Value} (h : w.cell? a = some v) : a.block < w.heap.size := by
  refine Nat.lt_of_not_le fun hle => ?_
  unfold World.cell? at h
  rw [Array.getElem?_eq_none hle] at h
  cases h
theorem gWeights : Tryd.prog.globalNamed "variantproxy/qvalue.weights" = some 0 := by kernel_rfl
theorem tWeights : (Tryd.prog.globals[0]?).map (·.type) = some 31 := by kernel_rfl
theorem wts_of_tab {W : World} (h : Lib.TabIs Tryd.prog W "variantproxy/qvalue.weights" .i64 [100, 10, 1]) : Wts W := by
  have c0 : W.cell? ⟨0, 0, none⟩ = some (.int .i64 100) := h.cell gWeights 0 (by decide)
  have c1 : W.cell? ⟨0, 1, none⟩ = some (.int .i64 10) := h.cell gWeights 1 (by decide)
  have c2 : W.cell? ⟨0, 2, none⟩ = some (.int .i64 1) := h.cell gWeights 2 (by decide)
  exact ⟨c0, c1, c2, cell_size c0⟩
/-- the table stands first on the row's list -/
theorem wts_of_laid {rest : List (String × DataW Unit)} {W : World} (h : laidMet Tryd.prog (("variantproxy/qvalue.weights", Lib.tabData .i64 [100, 10, 1]) :: rest) W) : Wts W :=
  wts_of_tab (Lib.tabIs_of_head gWeights tWeights Tryd.underlying31 Tryd.underlying3 (by kernel_rfl) (by kernel_rfl) h)

end Go.Proofs.YtlimfofjhedikaaDoor.Asc
