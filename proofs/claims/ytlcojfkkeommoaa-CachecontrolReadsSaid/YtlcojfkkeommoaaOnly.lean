/- A variable of type string in a block of its own (StrAt); what leaves all other blocks alone (Only). -/
import Derived.Test.YtlcojfkkeommoaaStrMem
import Derived.Test.YtlcojfkkeommoaaFieMem
set_option linter.unusedVariables false
set_option linter.unusedSimpArgs false
set_option maxRecDepth 100000
namespace Go.Proofs.Ytlcojfkkeommoaa.Asc
open Go.RowKit

/-- block k holds the string x, and may be written -/
def StrAt (k : Nat) (x : ByteArray) (w : World) : Prop := w.cell? ⟨k, 0, none⟩ = some (.string x) ∧ w.frozen? ⟨k, 0, none⟩ = false
theorem StrAt.new (x : ByteArray) (w : World) (t : TypeId) : StrAt w.heap.size x (w.alloc (.cells #[.string x] t)) :=
  ⟨by rw [World.cell?_alloc_mark]; rfl, by rw [World.frozen?_alloc_at _ _ _ _ rfl]⟩
theorem StrAt.lt {k : Nat} {x : ByteArray} {w : World} (h : StrAt k x w) : k < w.heap.size := cell_lt (p := ⟨k, 0, none⟩) h.1
theorem StrAt.below {k B : Nat} {x : ByteArray} {w w' : World} (h : StrAt k x w) (hb : Below B w w') (hk : k < B) : StrAt k x w' :=
  ⟨by rw [hb.cell hk]; exact h.1, by rw [hb.frozen hk]; exact h.2⟩
theorem StrAt.set {k : Nat} {x : ByteArray} {w : World} (h : StrAt k x w) (y : ByteArray) : StrAt k y (w.setCell ⟨k, 0, none⟩ (.string y)) :=
  ⟨by rw [World.cell?_setCell_same (h := h.1)], by rw [World.frozen?_setCell]; exact h.2⟩
/-- all that there was is as it was, but for block k -/
structure Only (k : Nat) (w w' : World) : Prop where
  os : w'.os = w.os
  tape : w'.tape = w.tape
  output : w'.output = w.output
  size : w.heap.size ≤ w'.heap.size
  block : ∀ j, j < w.heap.size → j ≠ k → w'.heap[j]? = w.heap[j]?
theorem Only.refl (k : Nat) (w : World) : Only k w w := ⟨rfl, rfl, rfl, Nat.le_refl _, fun _ _ _ => rfl⟩
theorem Only.trans {k : Nat} {a b c : World} (h : Only k a b) (g : Only k b c) : Only k a c :=
  ⟨g.os.trans h.os, g.tape.trans h.tape, g.output.trans h.output, Nat.le_trans h.size g.size, fun j hj hk => (g.block j (Nat.lt_of_lt_of_le hj h.size) hk).trans (h.block j hj hk)⟩
theorem Only.of {k : Nat} {w w' : World} (h : Below w.heap.size w w') : Only k w w' := ⟨h.os, h.tape, h.output, h.size, fun j hj _ => h.block j hj⟩
theorem Only.set {k : Nat} {w w' : World} (h : Only k w w') (v : Value) : Only k w (w'.setCell ⟨k, 0, none⟩ v) :=
  ⟨h.os, h.tape, h.output, by simpa using h.size, fun j hj hk => (Below.heap_setCell w' ⟨k, 0, none⟩ v j hk).trans (h.block j hj hk)⟩
theorem Only.below {k B : Nat} {w w' : World} (h : Only k w w') (hk : B ≤ k) (hB : B ≤ w.heap.size) : Below B w w' :=
  ⟨h.os, h.tape, h.output, h.size, fun j hj => h.block j (Nat.lt_of_lt_of_le hj hB) (by omega)⟩
theorem own_only {w w' : World} {k B : Nat} {e : TypeId} {size n : Nat} {v : Value} {xs : List Value} (h : w.ownsRow B e size v n xs) (hb : Only k w w') (hk : k < B) : w'.ownsRow B e size v n xs := by
  refine ⟨h.1, ?_⟩
  rcases h.2 with q | ⟨g, cap, cur, hv, hB, hg, r⟩
  · exact .inl q
  · refine .inr ⟨g, cap, cur, hv, hB, ?_, r⟩
    have : g < w.heap.size := by
      rcases Nat.lt_or_ge g w.heap.size with q | q
      · exact q
      · rw [Array.getElem?_eq_none q] at hg; cases hg
    rw [hb.block g this (by omega)]; exact hg
theorem Only.setAt {k : Nat} {w w' : World} (h : Only k w w') (i : Nat) (v : Value) : Only k w (w'.setCell ⟨k, i, none⟩ v) :=
  ⟨h.os, h.tape, h.output, by simpa using h.size, fun j hj hk => (Below.heap_setCell w' ⟨k, i, none⟩ v j hk).trans (h.block j hj hk)⟩
theorem own_le {w : World} {B B' : Nat} {e : TypeId} {size n : Nat} {v : Value} {xs : List Value} (h : w.ownsRow B e size v n xs) (hB : B' ≤ B) : w.ownsRow B' e size v n xs := by
  refine ⟨h.1, ?_⟩
  rcases h.2 with q | ⟨g, cap, cur, hv, hb, r⟩
  · exact .inl q
  · exact .inr ⟨g, cap, cur, hv, Nat.le_trans hB hb, r⟩

end Go.Proofs.Ytlcojfkkeommoaa.Asc
