/- A field in a block of its own. -/
import Derived.Test.YtlcojfkkeommoaaStaCut
set_option linter.unusedVariables false
set_option linter.unusedSimpArgs false
set_option maxRecDepth 100000
namespace Go.Proofs.Ytlcojfkkeommoaa.Asc
open Go.RowKit

theorem below_new (w : World) (o : Obj) : Below w.heap.size w (w.alloc o) := (Below.refl _ _).alloc (Nat.le_refl _) o
theorem below_new1 (w : World) (o : Obj) (n : Nat) : Below w.heap.size w ((w.alloc o).drewN n) := (below_new w o).trans ((below_drewN _ _).mono (below_new w o).size)

/-- a field lies at the block's start, and may be written -/
def Fld (g : Nat) (x y : ByteArray) (w : World) : Prop :=
  w.cell? ⟨g, 0, none⟩ = some (.string x) ∧ w.cell? ⟨g, 1, none⟩ = some (.string y) ∧ w.frozen? ⟨g, 0, none⟩ = false ∧ w.frozen? ⟨g, 1, none⟩ = false
theorem Fld.new (x y : ByteArray) (w : World) (t : TypeId) : Fld w.heap.size x y (w.alloc (.cells #[.string x, .string y] t)) := by
  exact ⟨by rw [World.cell?_alloc_mark]; rfl, by rw [World.cell?_alloc_mark]; rfl, by rw [World.frozen?_alloc_at _ _ _ _ rfl], by rw [World.frozen?_alloc_at _ _ _ _ rfl]⟩
theorem Fld.below {g B : Nat} {x y : ByteArray} {w w' : World} (h : Fld g x y w) (hb : Below B w w') (hg : g < B) : Fld g x y w' := by
  obtain ⟨h1, h2, h3, h4⟩ := h
  exact ⟨by rw [hb.cell hg]; exact h1, by rw [hb.cell hg]; exact h2, by rw [hb.frozen hg]; exact h3, by rw [hb.frozen hg]; exact h4⟩
theorem Fld.lt {g : Nat} {x y : ByteArray} {w : World} (h : Fld g x y w) : g < w.heap.size := by
  have h1 := h.1
  rcases Nat.lt_or_ge g w.heap.size with q | q
  · exact q
  · simp [World.cell?, Array.getElem?_eq_none q] at h1
theorem Fld.more {g : Nat} {x y : ByteArray} {w : World} (h : Fld g x y w) (o : Obj) : Fld g x y (w.alloc o) := h.below (below_new w o) h.lt
theorem Fld.drew {g : Nat} {x y : ByteArray} {w : World} (h : Fld g x y w) : Fld g x y w.drew := h.below (Below.refl _ _).drew h.lt
theorem Fld.drewN {g n : Nat} {x y : ByteArray} {w : World} (h : Fld g x y w) : Fld g x y (w.drewN n) := h.below (below_drewN _ _) h.lt
theorem below_set2 {w w1 : World} (h : Below w.heap.size w w1) (x y : Value) : Below w.heap.size w ((w1.setCell ⟨w.heap.size, 0, none⟩ x).setCell ⟨w.heap.size, 1, none⟩ y) :=
  (h.setCell (p := ⟨w.heap.size, 0, none⟩) (Nat.le_refl _) x).setCell (p := ⟨w.heap.size, 1, none⟩) (Nat.le_refl _) y
theorem small_max {s : ByteArray} (h : Box (s.size ≤ 65536)) : Box (s.size ≤ maxLen) := box (by have := h.out; unfold maxLen; omega)

end Go.Proofs.Ytlcojfkkeommoaa.Asc
