/- Merged texts: AccLaws2 ClsLaws4. -/
import Derived.Test.YtklfpkaemnhdhaaGreatDoorZc03
import Derived.Test.YtklfpkaemnhdhaaGreatDoorZc04
import Derived.Test.YtklfpkaemnhdhaaGreatDoorZc07
import Derived.Test.YtklfpkaemnhdhaaGreatDoorZc10
import Derived.Test.YtklfpkaemnhdhaaGreatDoorZc13
import Derived.Test.YtklfpkaemnhdhaaGreatDoorZc17
set_option linter.unusedVariables false
set_option linter.unusedSimpArgs false
set_option maxRecDepth 100000
namespace Go.Proofs.YtklfpkaemnhdhaaGreatDoor.Asc
section
open Go.RowKit
theorem rSplitLen_is {s : ByteArray} {n : Nat} {w : World} (hs : s.size ≤ 65000) (h : Box ((splitL s.data.toList).length = n)) :
    Calls Tryz.prog 24 #[.string s] w fun e w' => ∃ p c, e = .returned (.slice p n c) ∧ Below w.heap.size w w' :=
  (rSplit_any s w hs).mono fun e w' ⟨v, h1, h2, h3⟩ => by
    obtain ⟨p, c, rfl, _, _⟩ := h2.ss
    have hl : (splitB s.data.toList).length = n := by unfold splitB; rw [List.length_map]; exact h.out
    rw [hl] at h1
    exact ⟨p, c, h1, h3⟩
end
section
open Go.RowKit
theorem fit_mem18 {L : List F} (h1 : L.length ≤ 65536) (h2 : ∀ p ∈ L, p.1.size ≤ 9000 ∧ p.2.size ≤ 9000) : FitL L := fit_small (m := 0) h1 (fun i hi => h2 _ (List.getElem_mem hi))
theorem OwnF.one18 {w : World} {B : Nat} (hB : B ≤ w.heap.size) (n v : ByteArray) : OwnF (w.alloc (.cells #[.string n, .string v] 42)) B (.slice (some ⟨w.heap.size, 0, none⟩) 1 1) [(n, v)] :=
  World.ownsRow_lit w #[.string n, .string v] 1 hB (by decide) rfl
end
end Go.Proofs.YtklfpkaemnhdhaaGreatDoor.Asc
