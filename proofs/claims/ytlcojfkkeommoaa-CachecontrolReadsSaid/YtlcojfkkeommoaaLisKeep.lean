/- keep.Strings: which lists of strings a law looks at. -/
import Derived.Test.YtlcojfkkeommoaaStrMem
import Derived.Test.YtlcojfkkeommoaaLstMem
set_option linter.unusedVariables false
set_option linter.unusedSimpArgs false
set_option maxRecDepth 100000
namespace Go.Proofs.Ytlcojfkkeommoaa.Asc
open Go.RowKit

def okS (x : ByteArray) : Bool := decide (x.size ≤ 100)
def keepS (L : List ByteArray) : Bool := decide (L.length ≤ 20) && L.all okS
theorem keepS_bad {L : List ByteArray} {k : Nat} (h : k < L.length) (e : ¬ L[k].size ≤ 100) : keepS L = false := by
  unfold keepS
  have : L.all okS = false := by
    rw [List.all_eq_false]
    exact ⟨L[k], List.getElem_mem h, by unfold okS; simpa using e⟩
  rw [this, Bool.and_false]
theorem keepS_long {L : List ByteArray} (h : ¬ L.length ≤ 20) : keepS L = false := by unfold keepS; rw [decide_eq_false h, Bool.false_and]
theorem keepS_more {L : List ByteArray} {k : Nat} (h : k < L.length) (ha : (L.take k).all okS = true) (e : L[k].size ≤ 100) : (L.take (k + 1)).all okS = true := by
  rw [List.take_add_one, List.getElem?_eq_getElem h, List.all_append, ha]
  simp [okS, e]
theorem keepS_end {L : List ByteArray} (ha : (L.take L.length).all okS = true) (h : L.length ≤ 20) : keepS L = true := by
  rw [List.take_length] at ha
  unfold keepS; rw [ha, decide_eq_true h]; rfl
theorem keepS_small {L : List ByteArray} (h : keepS L = true) : L.length ≤ 20 ∧ ∀ x ∈ L, x.size ≤ 100 := by
  unfold keepS at h
  rw [Bool.and_eq_true, decide_eq_true_eq, List.all_eq_true] at h
  exact ⟨h.1, fun x hx => by have := h.2 x hx; unfold okS at this; simpa using this⟩
end Go.Proofs.Ytlcojfkkeommoaa.Asc
