/- Plain facts on UTF-8: what a byte from 128 on is decoded as; a search for slashes and question marks. No program is named here. -/
import Derived.Lib.DecodeN
import Derived.Lib.IndexAny
import Derived.Laws.RangeAny
import Derived.Laws.Runes
import Derived.Test.YthfhoacflkbhhaaStaSpec
set_option linter.unusedVariables false
set_option linter.unusedSimpArgs false
namespace Go.Proofs.Ythfhoacflkbhhaa.Asc

theorem decN_high (n b0 b1 b2 b3 : Nat) (hn : 1 ≤ n) (h0 : 128 ≤ b0) (h1 : b0 < 256) :
    128 ≤ (Lib.decodeN n b0 b1 b2 b3).1 ∧ ((Lib.decodeN n b0 b1 b2 b3).1 < 55296 ∨ (57344 ≤ (Lib.decodeN n b0 b1 b2 b3).1 ∧ (Lib.decodeN n b0 b1 b2 b3).1 ≤ 1114111)) ∧
    1 ≤ (Lib.decodeN n b0 b1 b2 b3).2 ∧ (Lib.decodeN n b0 b1 b2 b3).2 ≤ n ∧ (Lib.decodeN n b0 b1 b2 b3).2 ≤ 4 ∧ (2 ≤ (Lib.decodeN n b0 b1 b2 b3).2 → 128 ≤ b1) ∧ (3 ≤ (Lib.decodeN n b0 b1 b2 b3).2 → 128 ≤ b2) ∧ (4 ≤ (Lib.decodeN n b0 b1 b2 b3).2 → 128 ≤ b3) := by
  unfold Lib.decodeN
  repeat' split
  all_goals (simp only; omega)
theorem decode_max (s : ByteArray) (i : Nat) : (Utf8.decode s i).1 ≤ 1114111 := by
  rw [Lib.decode_at]
  have h := UInt8.toNat_lt (s.get! i)
  generalize (s.get! i).toNat = b0 at *
  unfold Lib.decodeN
  repeat' split
  all_goals (simp only; omega)
theorem get_bang (s : ByteArray) (j : Nat) (h : j < s.size) : s.get! j = s[j] := by
  simp [ByteArray.get!, getElem!_pos, h]; rfl
theorem valid_of {r : Nat} (h : r < 55296 ∨ (57344 ≤ r ∧ r ≤ 1114111)) : Utf8.valid (r : Int) = true := by
  simp only [Utf8.valid]
  rcases h with h | h <;> simp <;> omega
/-- slash and question mark -/
def ends2 : List UInt8 := [47, 63]
theorem ends_high {c : UInt8} (h : 128 ≤ c.toNat) : ends2.contains c = false := by
  have key : ∀ x : Fin 256, 128 ≤ x.1 → ends2.contains (UInt8.ofNat x.1) = false := by decide +kernel
  have := key ⟨c.toNat, c.toNat_lt⟩ h
  simpa using this
theorem noAny_high {s : ByteArray} {i : Nat} (h : i < s.size) (hb : 128 ≤ s[i].toNat) (hno : Lib.NoAny s.data.toList ends2 i) :
    128 ≤ (Utf8.decode s i).1 ∧ Utf8.valid ((Utf8.decode s i).1 : Int) = true ∧ 1 ≤ (Utf8.decode s i).2 ∧ i + (Utf8.decode s i).2 ≤ s.size ∧ Lib.NoAny s.data.toList ends2 (i + (Utf8.decode s i).2) := by
  have hd := decN_high (s.size - i) (s.get! i).toNat (s.get! (i + 1)).toNat (s.get! (i + 2)).toNat (s.get! (i + 3)).toNat (by omega) (by rw [get_bang s i h]; exact hb) (UInt8.toNat_lt _)
  rw [← Lib.decode_at] at hd
  obtain ⟨d1, d2, d3, d4, d5, d6, d7, d8⟩ := hd
  refine ⟨d1, valid_of d2, d3, by omega, fun j b hj hjb => ?_⟩
  have hlt : j < s.size := by
    have := (List.getElem?_eq_some_iff.1 hjb).1
    simpa using this
  have hs : s.data.toList[j]? = some s[j] := by
    rw [List.getElem?_eq_getElem (by simpa using hlt)]; rfl
  rw [hs] at hjb
  cases hjb
  by_cases e : j < i
  · exact hno j _ e hs
  · by_cases e0 : j = i
    · subst e0; exact ends_high hb
    · by_cases e1 : j = i + 1
      · subst e1; have := d6 (by omega); rw [get_bang s _ hlt] at this; exact ends_high this
      · by_cases e2 : j = i + 2
        · subst e2; have := d7 (by omega); rw [get_bang s _ hlt] at this; exact ends_high this
        · by_cases e3 : j = i + 3
          · subst e3; have := d8 (by omega); rw [get_bang s _ hlt] at this; exact ends_high this
          · omega
/-- where the search ends is where the first bytes that are neither end -/
theorem any_while {l : List UInt8} : ∀ {p : UInt8 → Bool}, (∀ c, p c = !(ends2.contains c)) → (Lib.indexAny l ends2 = -1 → l.takeWhile p = l) ∧ (∀ k : Nat, Lib.indexAny l ends2 = k → (l.takeWhile p).length = k ∧ k < l.length) := by
  intro p hp
  induction l with
  | nil => exact ⟨fun _ => rfl, fun k h => by simp [Lib.indexAny] at h⟩
  | cons c r ih =>
    have hge := Lib.indexAny_ge ends2 r
    rw [Lib.indexAny, List.takeWhile_cons, hp c]
    rcases hc : ends2.contains c with _ | _
    · simp only [Bool.false_eq_true, if_false, Bool.not_false, if_true]
      by_cases h1 : Lib.indexAny r ends2 = -1
      · rw [h1]
        simp only [beq_self_eq_true, if_true]
        exact ⟨fun _ => by rw [ih.1 h1], fun k h => by omega⟩
      · have h2 : (Lib.indexAny r ends2 == -1) = false := by simpa using h1
        rw [h2]
        simp only [Bool.false_eq_true, if_false]
        refine ⟨fun h => by omega, fun k h => ?_⟩
        obtain ⟨h3, h4⟩ := ih.2 (k - 1) (by omega)
        simp only [List.length_cons]
        omega
    · simp only [if_true, Bool.not_true, Bool.false_eq_true, if_false]
      refine ⟨fun h => by omega, fun k h => ?_⟩
      have : k = 0 := by omega
      subst this; simp

end Go.Proofs.Ythfhoacflkbhhaa.Asc
