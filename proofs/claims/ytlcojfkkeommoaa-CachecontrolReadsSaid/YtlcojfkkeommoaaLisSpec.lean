/- Plain functions on lists of bytes: a value cut at its commas, its members, members joined. No program is named here. -/
import Derived.Test.YtlcojfkkeommoaaFieSpec
import Derived.Test.YtlcojfkkeommoaaAscSpec3
set_option linter.unusedVariables false
set_option linter.unusedSimpArgs false
set_option maxRecDepth 100000
namespace Go.Proofs.Ytlcojfkkeommoaa.Asc

/-- the pieces of a list at a separator outside quoted strings; the piece that has been begun -/
def cutF (sep : UInt8) : Nat → Bool → List UInt8 → List UInt8 → List (List UInt8)
  | 0, _, _, acc => [acc]
  | _ + 1, _, [], acc => [acc]
  | f + 1, q, c :: r, acc =>
    if q = true ∧ c = 92 then (match r with | [] => [acc ++ [c]] | d :: r2 => cutF sep f q r2 (acc ++ [c, d]))
    else if c = 34 then cutF sep f (!q) r (acc ++ [c])
    else if c = sep ∧ q = false then acc :: cutF sep f q r []
    else cutF sep f q r (acc ++ [c])
def cutL (sep : UInt8) (l : List UInt8) : List (List UInt8) := cutF sep l.length false l []
/-- is a byte behind the list within a quoted string? -/
def endF : Nat → Bool → List UInt8 → Bool
  | 0, q, _ => q
  | _ + 1, q, [] => q
  | f + 1, q, c :: r =>
    if q = true ∧ c = 92 then (match r with | [] => true | _ :: r2 => endF f q r2)
    else if c = 34 then endF f (!q) r
    else endF f q r
def memL (ps : List (List UInt8)) : List (List UInt8) := (ps.map trimL).filter (fun p => !p.isEmpty)
def splitL (l : List UInt8) : List (List UInt8) := (memL (cutL 44 l)).take 64
def joinC : List (List UInt8) → List UInt8
  | [] => []
  | [m] => m
  | m :: ms => m ++ [44, 32] ++ joinC ms

theorem cutF_fuel {sep : UInt8} : ∀ (f g : Nat) (q : Bool) (l acc : List UInt8), l.length ≤ f → l.length ≤ g → cutF sep f q l acc = cutF sep g q l acc
  | f, g, q, [], acc, _, _ => by cases f <;> cases g <;> rfl
  | 0, g, q, c :: r, acc, h, _ => by simp at h
  | f + 1, 0, q, c :: r, acc, _, h => by simp at h
  | f + 1, g + 1, q, c :: r, acc, hf, hg => by
    simp only [List.length_cons] at hf hg
    unfold cutF
    split
    · split
      · rfl
      · rename_i d r2
        simp only [List.length_cons] at hf hg
        exact cutF_fuel f g q r2 _ (by omega) (by omega)
    · split
      · exact cutF_fuel f g (!q) r _ (by omega) (by omega)
      · split
        · rw [cutF_fuel f g q r _ (by omega) (by omega)]
        · exact cutF_fuel f g q r _ (by omega) (by omega)
theorem cutF_cons (sep : UInt8) (f : Nat) (q : Bool) (c : UInt8) (r acc : List UInt8) : cutF sep (f + 1) q (c :: r) acc = if q = true ∧ c = 92 then (match r with | [] => [acc ++ [c]] | d :: r2 => cutF sep f q r2 (acc ++ [c, d])) else if c = 34 then cutF sep f (!q) r (acc ++ [c]) else if c = sep ∧ q = false then acc :: cutF sep f q r [] else cutF sep f q r (acc ++ [c]) := rfl
theorem endF_cons (f : Nat) (q : Bool) (c : UInt8) (r : List UInt8) : endF (f + 1) q (c :: r) = if q = true ∧ c = 92 then (match r with | [] => true | _ :: r2 => endF f q r2) else if c = 34 then endF f (!q) r else endF f q r := rfl
theorem cutF_nil (sep : UInt8) (f : Nat) (q : Bool) (acc : List UInt8) : cutF sep f q [] acc = [acc] := by cases f <;> rfl
theorem endF_nil (f : Nat) (q : Bool) : endF f q [] = q := by cases f <;> rfl
/-- a list that ends outside quoted strings, a separator, more -/
theorem cutF_app {sep : UInt8} (hs : sep ≠ 34 ∧ sep ≠ 92) : ∀ (f : Nat) (q : Bool) (a b acc : List UInt8), a.length ≤ f → endF f q a = false → cutF sep (f + 1 + b.length) q (a ++ sep :: b) acc = cutF sep f q a acc ++ cutF sep b.length false b []
  | f, q, [], b, acc, h, he => by
    rw [endF_nil] at he
    subst he
    rw [List.nil_append, show f + 1 + b.length = (f + b.length) + 1 from by omega, cutF_cons, if_neg (by simp), if_neg hs.1, if_pos ⟨rfl, rfl⟩, cutF_fuel (f + b.length) b.length false b [] (by omega) (Nat.le_refl _), cutF_nil]
    rfl
  | 0, q, c :: r, b, acc, h, he => by simp at h
  | f + 1, q, c :: r, b, acc, h, he => by
    simp only [List.length_cons] at h
    rw [endF_cons] at he
    rw [List.cons_append, show f + 1 + 1 + b.length = (f + 1 + b.length) + 1 from by omega, cutF_cons, cutF_cons]
    by_cases h1 : q = true ∧ c = 92
    · rw [if_pos h1] at he
      rw [if_pos h1, if_pos h1]
      match r, h, he with
      | [], h, he => cases he
      | d :: r2, h, he =>
        simp only [List.length_cons] at h
        exact cutF_app hs f q r2 b _ (by omega) he
    · rw [if_neg h1] at he
      rw [if_neg h1, if_neg h1]
      by_cases h2 : c = 34
      · rw [if_pos h2] at he
        rw [if_pos h2, if_pos h2]
        exact cutF_app hs f (!q) r b _ (by omega) he
      · rw [if_neg h2] at he
        rw [if_neg h2, if_neg h2]
        by_cases h3 : c = sep ∧ q = false
        · rw [if_pos h3, if_pos h3, cutF_app hs f q r b [] (by omega) he]; rfl
        · rw [if_neg h3, if_neg h3]
          exact cutF_app hs f q r b _ (by omega) he
/-- .. and one that ends within a quoted string: the last piece goes on, and holds a quote -/
theorem cut_quoted {sep : UInt8} (hs : sep ≠ 34 ∧ sep ≠ 92) (x : UInt8) (hx : x ≠ 34 ∧ x ≠ 92) : ∀ (f : Nat) (q : Bool) (a acc : List UInt8), a.length ≤ f → endF f q a = true → (q = true → 34 ∈ acc) →
    ∃ ps p, 34 ∈ p ∧ cutF sep f q a acc = ps ++ [p] ∧ cutF sep (f + 2) q (a ++ [sep, x]) acc = ps ++ [p ++ [sep, x]]
  | f, q, [], acc, h, he, ha => by
    rw [endF_nil] at he
    subst he
    refine ⟨[], acc, ha rfl, cutF_nil _ _ _ _, ?_⟩
    rw [List.nil_append, cutF_cons, if_neg (by simp [hs.2]), if_neg hs.1, if_neg (by simp), cutF_cons, if_neg (by simp [hx.2]), if_neg hx.1, if_neg (by simp), cutF_nil]
    simp
  | 0, q, c :: r, acc, h, he, ha => by simp at h
  | f + 1, q, c :: r, acc, h, he, ha => by
    simp only [List.length_cons] at h
    rw [endF_cons] at he
    rw [List.cons_append, cutF_cons, cutF_cons]
    by_cases h1 : q = true ∧ c = 92
    · rw [if_pos h1] at he
      rw [if_pos h1, if_pos h1]
      match r, h, he with
      | [], h, he =>
        obtain ⟨rfl, rfl⟩ := h1
        refine ⟨[], acc ++ [92], by simp [ha rfl], rfl, ?_⟩
        show cutF sep (f + 2) true [x] (acc ++ [92, sep]) = _
        rw [show f + 2 = (f + 1) + 1 from rfl, cutF_cons, if_neg (by simp [hx.2]), if_neg hx.1, if_neg (by simp), cutF_nil]
        simp
      | d :: r2, h, he =>
        simp only [List.length_cons] at h
        exact cut_quoted hs x hx f q r2 _ (by omega) he (fun hq => by simp [ha hq])
    · rw [if_neg h1] at he
      rw [if_neg h1, if_neg h1]
      by_cases h2 : c = 34
      · rw [if_pos h2] at he
        rw [if_pos h2, if_pos h2]
        exact cut_quoted hs x hx f (!q) r _ (by omega) he (fun _ => by simp [h2])
      · rw [if_neg h2] at he
        rw [if_neg h2, if_neg h2]
        by_cases h3 : c = sep ∧ q = false
        · rw [if_pos h3, if_pos h3]
          obtain ⟨ps, p, e1, e2, e3⟩ := cut_quoted hs x hx f q r [] (by omega) he (fun hq => by rw [h3.2] at hq; cases hq)
          exact ⟨acc :: ps, p, e1, by rw [e2]; rfl, by rw [e3]; rfl⟩
        · rw [if_neg h3, if_neg h3]
          exact cut_quoted hs x hx f q r _ (by omega) he (fun hq => by simp [ha hq])
theorem quote_not_blank {p : List UInt8} (h : 34 ∈ p) : trimL p ≠ [] := by
  intro e
  obtain ⟨a, b, h1, h2, h3, _⟩ := trim_split p
  rw [e] at h1
  rw [h1] at h
  simp only [List.nil_append, List.mem_append] at h
  rcases h with h | h
  · exact absurd (h2 _ h) (by decide)
  · exact absurd (h3 _ h) (by decide)
theorem memL_append (a b : List (List UInt8)) : memL (a ++ b) = memL a ++ memL b := by unfold memL; rw [List.map_append, List.filter_append]
theorem memL_one {p : List UInt8} (h : trimL p ≠ []) : memL [p] = [trimL p] := by
  unfold memL
  cases hq : trimL p with
  | nil => exact absurd hq h
  | cons c r => simp [hq]
/-- one more member behind the list: the list ends outside quoted strings -/
theorem ends_open {a : List UInt8} (h : (splitL (a ++ [44, 120])).length = (splitL a).length + 1) : endF a.length false a = false := by
  rcases he : endF a.length false a with _ | _
  · rfl
  · exfalso
    obtain ⟨ps, p, e1, e2, e3⟩ := cut_quoted (sep := 44) ⟨by decide, by decide⟩ 120 ⟨by decide, by decide⟩ a.length false a [] (Nat.le_refl _) he (fun h => by cases h)
    have hl : (a ++ [44, 120]).length = a.length + 2 := by simp
    unfold splitL cutL at h
    rw [hl, e2, e3, memL_append, memL_append, memL_one (quote_not_blank e1), memL_one (quote_not_blank (by simp [e1]))] at h
    simp at h
/-- two lists with a comma between, of which the first ends outside quoted strings -/
theorem split_two {a b : List UInt8} (h : endF a.length false a = false) : splitL (a ++ 44 :: b) = (memL (cutL 44 a) ++ memL (cutL 44 b)).take 64 := by
  unfold splitL cutL
  rw [← memL_append, ← cutF_app (sep := 44) ⟨by decide, by decide⟩ a.length false a b [] (Nat.le_refl _) h]
  have : (a ++ 44 :: b).length = a.length + 1 + b.length := by simp; omega
  rw [this]

end Go.Proofs.Ytlcojfkkeommoaa.Asc
