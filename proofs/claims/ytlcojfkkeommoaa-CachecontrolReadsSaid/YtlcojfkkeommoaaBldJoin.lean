/- The contract of strings.Join at ", ": the elements with ", " between. -/
import Derived.Test.YtlcojfkkeommoaaBldMem
import Derived.Test.YtlcojfkkeommoaaLisRef4
set_option linter.unusedVariables false
set_option linter.unusedSimpArgs false
set_option maxRecDepth 100000
namespace Go.Proofs.Ytlcojfkkeommoaa.Asc
open Go.RowKit

/-- the lengths of the first k -/
def lenT (L : List ByteArray) (k : Nat) : Nat := ((L.take k).map (·.size)).sum
theorem lenT_next {L : List ByteArray} {k : Nat} (h : k < L.length) : lenT L (k + 1) = lenT L k + L[k].size := by
  unfold lenT; rw [List.take_add_one, List.getElem?_eq_getElem h, Option.toList_some, List.map_append, List.sum_append]; rfl
theorem lenT_le {L : List ByteArray} (hz : ∀ x ∈ L, x.size ≤ 65536) : ∀ k, lenT L k ≤ k * 65536
  | 0 => by simp [lenT]
  | k + 1 => by
    have ih := lenT_le hz k
    by_cases h : k < L.length
    · rw [lenT_next h]; have := hz L[k] (List.getElem_mem h); omega
    · have e : lenT L (k + 1) = lenT L k := by unfold lenT; rw [List.take_of_length_le (by omega), List.take_of_length_le (by omega)]
      omega
theorem joinC_len {ms : List (List UInt8)} (hz : ∀ x ∈ ms, x.length ≤ 65536) : ∀ k, (joinC (ms.take k)).length ≤ k * 65540
  | 0 => by simp [joinC]
  | k + 1 => by
    have ih := joinC_len hz k
    by_cases h : k < ms.length
    · have := hz ms[k] (List.getElem_mem h)
      rw [joinC_more h]
      split
      · omega
      · simp only [List.length_append, List.length_cons, List.length_nil]; omega
    · have e : ms.take (k + 1) = ms.take k := by rw [List.take_of_length_le (by omega), List.take_of_length_le (by omega)]
      rw [e]
      exact Nat.le_trans ih (Nat.mul_le_mul_right _ (Nat.le_succ k))
theorem joinC_two {a b : List UInt8} {r : List (List UInt8)} : joinC (a :: b :: r) ≠ [] := by
  show a ++ [44, 32] ++ joinC (b :: r) ≠ []
  simp
def Jn1 (L : List ByteArray) (n i : Value) : Prop := ∃ k : Nat, k ≤ L.length ∧ i = .int .i64 k ∧ n = .int .i64 ((2 * (L.length - 1) + lenT L k : Nat) : Int)
end Go.Proofs.Ytlcojfkkeommoaa.Asc
