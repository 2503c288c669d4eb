/- Merged texts: VarRef MedLen LstRem LstClo VarRef2 VarRef3 VarRef4. -/
import Derived.Test.YtodbmdekgfcjpaaM01
import Derived.Test.YtodbmdekgfcjpaaM02
import Derived.Test.YtodbmdekgfcjpaaM03
import Derived.Test.YtodbmdekgfcjpaaM04
import Derived.Test.YtodbmdekgfcjpaaM05
import Derived.Test.YtodbmdekgfcjpaaM06
import Derived.Test.YtodbmdekgfcjpaaM07
import Derived.Test.YtodbmdekgfcjpaaM08
import Derived.BigQuiet
import Derived.Deep.QuietTactic
import Derived.Deep.RegionHeld3
import Derived.Laws.EntriesVeiled
import Derived.Lib.Hide
import Derived.Lib.SliceRun
import Derived.LoopTactic
set_option linter.unusedVariables false
set_option linter.unusedSimpArgs false
set_option maxRecDepth 100000
namespace Go.Proofs.Ytodbmdekgfcjpaa.Asc
section
open Go.RowKit
theorem kind_five (n : ByteArray) : kindN n = 1 ∨ kindN n = 2 ∨ kindN n = 3 ∨ kindN n = 4 ∨ kindN n = 0 := by
  unfold kindN; repeat' split
  all_goals simp
end
section
open Go.RowKit
theorem range_len {s : ByteArray} {a b : ByteArray} {L : List F} (h : ofM (rangeL s.data.toList) = (a, b, L)) : L.length ≤ s.size ∧ (∀ i (hi : i < L.length), L[i].1.size ≤ s.size ∧ L[i].2.size ≤ s.size) ∧ a.size ≤ s.size ∧ b.size ≤ s.size := by
  have hz : s.data.toList.length = s.size := by simp
  cases hr : rangeL s.data.toList with
  | none =>
    rw [hr] at h
    cases h
    exact ⟨Nat.zero_le _, fun i hi => absurd hi (by simp), Nat.zero_le _, Nat.zero_le _⟩
  | some x =>
    obtain ⟨c, d, K⟩ := x
    rw [hr] at h
    cases h
    obtain ⟨_, _, h3, h4⟩ := range_facts hr
    exact ⟨by omega, fun i hi => by have := szF_at hi; omega, by omega, by omega⟩
theorem media_len {s : ByteArray} {a b : ByteArray} {L : List F} (h : ofM (mediaL s.data.toList) = (a, b, L)) : L.length ≤ s.size ∧ (∀ i (hi : i < L.length), L[i].1.size ≤ s.size ∧ L[i].2.size ≤ s.size) ∧ a.size ≤ s.size ∧ b.size ≤ s.size := by
  rw [media_cases] at h
  have no : ∀ {x : M}, ofM (none : Option M) = x → x = (a, b, L) → L.length ≤ s.size ∧ (∀ i (hi : i < L.length), L[i].1.size ≤ s.size ∧ L[i].2.size ≤ s.size) ∧ a.size ≤ s.size ∧ b.size ≤ s.size := by
    intro x h1 h2
    rw [← h1] at h2
    cases h2
    exact ⟨Nat.zero_le _, fun i hi => absurd hi (by simp), Nat.zero_le _, Nat.zero_le _⟩
  split at h
  · split at h
    · exact no rfl h
    · exact range_len h
  · exact no rfl h
end
section
open Go.RowKit
/-- what the function value of Remove has captured: a variable that holds the function value of named -/
def Cap (g2 g1 : Nat) (nm : ByteArray) (w : World) : Prop := w.cell? ⟨g2, 0, none⟩ = some (nmV g1) ∧ Nm g1 nm w
theorem Cap.below {w w' : World} {g2 g1 : Nat} {nm : ByteArray} (h : Cap g2 g1 nm w) (hb : Below w.heap.size w w') : Cap g2 g1 nm w' := ⟨(hb.cell (cell_lt h.1)).trans h.1, h.2.below hb⟩
end
section
open Go.RowKit
theorem OwnF.empty (w : World) : OwnF (w.alloc (.cells #[] 40)) w.heap.size (.slice (some ⟨w.heap.size, 0, none⟩) 0 0) [] :=
  ⟨rfl, .inr ⟨_, _, _, rfl, Nat.le_refl _, heap_alloc_new w _, Nat.zero_le _, by unfold maxLen; omega, rfl, rfl⟩⟩
end
section
open Go.RowKit
theorem ne_toList (a b : ByteArray) : (!(a.toList == b.toList)) = decide (a ≠ b) := by
  rw [toList_data, toList_data]
  by_cases e : a = b
  · rw [e]; simp
  · rw [decide_eq_true e]
    have : (a.data.toList == b.data.toList) = false := beq_eq_false_iff_ne.2 (fun h => e (by rw [bs_of a, bs_of b, h]))
    rw [this]; rfl
end
section
open Go.RowKit
theorem vals_no {n : ByteArray} {V : List ByteArray} {i m : Nat} (h : i < m) (hf : (valueV n (atS V i) && newV n V i i) = false) : valsV n V m = false := range_no h hf
end
section
open Go.RowKit
theorem axes_no {L : List AX} {i m : Nat} (h : i < m) (hf : (validA (atA L i) && newA L i i) = false) : axesV L m = false := range_no h hf
def smallA (L : List AX) : Prop := ∀ i (hi : i < L.length), L[i].1.size ≤ 65000 ∧ L[i].2.length ≤ 65536 ∧ ∀ j (hj : j < L[i].2.length), L[i].2[j].size ≤ 65000
end
end Go.Proofs.Ytodbmdekgfcjpaa.Asc
