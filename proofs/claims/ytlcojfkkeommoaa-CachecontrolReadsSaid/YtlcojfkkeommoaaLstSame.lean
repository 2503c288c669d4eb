/- The contracts of SameStrings and of SameFields. -/
import Derived.Test.YtlcojfkkeommoaaLstGet
set_option linter.unusedVariables false
set_option linter.unusedSimpArgs false
set_option maxRecDepth 100000
namespace Go.Proofs.Ytlcojfkkeommoaa.Asc
open Go.RowKit

theorem str_eq {a b : ByteArray} (h : (a.toList == b.toList) = true) : a = b := by
  rw [toList_data, toList_data] at h
  rw [bs_of a, bs_of b, eq_of_beq h]
theorem take_same {α : Type} {K L : List α} {k : Nat} (hK : k < K.length) (hL : k < L.length) (h : K.take k = L.take k) (e : K[k] = L[k]) : K.take (k + 1) = L.take (k + 1) := by
  rw [take_next hK, take_next hL, h, e]
theorem not_same {α : Type} {K L : List α} {k : Nat} (hK : k < K.length) (hL : k < L.length) (e : K[k] ≠ L[k]) : K ≠ L := by
  intro h; subst h; exact e rfl
theorem fld_eq {p q : F} (h1 : (p.1.toList == q.1.toList) = true) (h2 : (p.2.toList == q.2.toList) = true) : p = q := by
  obtain ⟨a, b⟩ := p
  obtain ⟨c, d⟩ := q
  rw [show a = c from str_eq h1, show b = d from str_eq h2]
end Go.Proofs.Ytlcojfkkeommoaa.Asc
