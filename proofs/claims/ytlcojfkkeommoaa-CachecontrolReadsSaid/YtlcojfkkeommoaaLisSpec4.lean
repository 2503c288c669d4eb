/- Plain facts: one step of a list that is cut, by places. No program is named here. -/
import Derived.Test.YtlcojfkkeommoaaLisSpec3
set_option linter.unusedVariables false
set_option linter.unusedSimpArgs false
set_option maxRecDepth 100000
namespace Go.Proofs.Ytlcojfkkeommoaa.Asc

/-- where a cut stands: at place k, the piece begun at place n -/
def cutAt (sep : UInt8) (l : List UInt8) (q : Bool) (k n : Nat) : List (List UInt8) := cutF sep (l.length - k) q (l.drop k) ((l.take k).drop n)
theorem cut_start (sep : UInt8) (l : List UInt8) : cutL sep l = cutAt sep l false 0 0 := by unfold cutL cutAt; simp
theorem acc_next {l : List UInt8} {k n : Nat} (hk : k < l.length) (hn : n ≤ k) : (l.take k).drop n ++ [l[k]] = (l.take (k + 1)).drop n := by
  rw [List.take_add_one, List.getElem?_eq_getElem hk, List.drop_append_of_le_length (by rw [List.length_take]; omega)]; rfl
theorem cut_fuel1 {l : List UInt8} {k : Nat} (hk : k < l.length) : l.length - k = (l.length - (k + 1)) + 1 := by omega
theorem cut_drop {l : List UInt8} {k : Nat} (hk : k < l.length) : l.drop k = l[k] :: l.drop (k + 1) := List.drop_eq_getElem_cons hk
theorem cut_out {sep : UInt8} {l : List UInt8} {q : Bool} {k n : Nat} (hk : l.length ≤ k) : cutAt sep l q k n = [l.drop n] := by
  unfold cutAt; rw [List.drop_of_length_le hk, cutF_nil, List.take_of_length_le hk]
theorem cut_esc {sep : UInt8} {l : List UInt8} {k n : Nat} (hk : k < l.length) (hn : n ≤ k) (h : l[k] = 92) : cutAt sep l true k n = cutAt sep l true (k + 2) n := by
  unfold cutAt
  rw [cut_fuel1 hk, cut_drop hk, cutF_cons, if_pos ⟨rfl, h⟩]
  by_cases h2 : k + 1 < l.length
  · rw [cut_drop h2]
    simp only
    have e : (l.take k).drop n ++ [l[k], l[k + 1]] = (l.take (k + 2)).drop n := by
      rw [← acc_next h2 (by omega), ← acc_next hk hn, List.append_assoc]; rfl
    rw [e]
    exact cutF_fuel _ _ _ _ _ (by rw [List.length_drop]; omega) (by rw [List.length_drop]; omega)
  · have e1 : l.drop (k + 1) = [] := List.drop_of_length_le (by omega)
    have e2 : l.drop (k + 2) = [] := List.drop_of_length_le (by omega)
    have e3 : l.take (k + 2) = l.take (k + 1) := by rw [List.take_of_length_le (by omega), List.take_of_length_le (by omega)]
    rw [e1, e2, cutF_nil, e3, ← acc_next hk hn]
theorem cut_quo {sep : UInt8} {l : List UInt8} {q : Bool} {k n : Nat} (hk : k < l.length) (hn : n ≤ k) (h1 : ¬ (q = true ∧ l[k] = 92)) (h : l[k] = 34) : cutAt sep l q k n = cutAt sep l (!q) (k + 1) n := by
  unfold cutAt
  rw [cut_fuel1 hk, cut_drop hk, cutF_cons, if_neg h1, if_pos h, acc_next hk hn]
theorem cut_sep {sep : UInt8} {l : List UInt8} {k n : Nat} (hk : k < l.length) (h2 : l[k] ≠ 34) (h : l[k] = sep) : cutAt sep l false k n = (l.take k).drop n :: cutAt sep l false (k + 1) (k + 1) := by
  unfold cutAt
  rw [cut_fuel1 hk, cut_drop hk, cutF_cons, if_neg (by simp), if_neg h2, if_pos ⟨h, rfl⟩, List.drop_of_length_le (l := l.take (k + 1)) (by rw [List.length_take]; omega)]
theorem cut_any {sep : UInt8} {l : List UInt8} {q : Bool} {k n : Nat} (hk : k < l.length) (hn : n ≤ k) (h1 : ¬ (q = true ∧ l[k] = 92)) (h2 : l[k] ≠ 34) (h : ¬ (l[k] = sep ∧ q = false)) : cutAt sep l q k n = cutAt sep l q (k + 1) n := by
  unfold cutAt
  rw [cut_fuel1 hk, cut_drop hk, cutF_cons, if_neg h1, if_neg h2, if_neg h, acc_next hk hn]

end Go.Proofs.Ytlcojfkkeommoaa.Asc
