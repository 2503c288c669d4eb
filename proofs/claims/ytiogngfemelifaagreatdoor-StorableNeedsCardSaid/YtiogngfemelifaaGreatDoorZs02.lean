/- Merged texts: LisSpec LisSpec2 LstSpec LisSpec3 LisSpec4 ParSpec CtlSpec. -/
import Derived.Test.YtiogngfemelifaaGreatDoorZs01
set_option linter.unusedVariables false
set_option linter.unusedSimpArgs false
set_option maxRecDepth 100000
namespace Go.Proofs.YtiogngfemelifaaGreatDoor.Asc
section
/-- the pieces of a list at a separator outside quoted strings; the piece that has been begun -/
def cutF (sep : UInt8) : Nat → Bool → List UInt8 → List UInt8 → List (List UInt8)
  | 0, _, _, acc => [acc]
  | _ + 1, _, [], acc => [acc]
  | f + 1, q, c :: r, acc =>
    if q = true ∧ c = 92 then (match r with | [] => [acc ++ [c]] | d :: r2 => cutF sep f q r2 (acc ++ [c, d]))
    else if c = 34 then cutF sep f (!q) r (acc ++ [c])
    else if c = sep ∧ q = false then acc :: cutF sep f q r []
    else cutF sep f q r (acc ++ [c])
def cutL (sep : UInt8) (l : List UInt8) : List (List UInt8) := cutF sep l.length false l []
/-- is a byte behind the list within a quoted string? -/
def endF : Nat → Bool → List UInt8 → Bool
  | 0, q, _ => q
  | _ + 1, q, [] => q
  | f + 1, q, c :: r =>
    if q = true ∧ c = 92 then (match r with | [] => true | _ :: r2 => endF f q r2)
    else if c = 34 then endF f (!q) r
    else endF f q r
def memL (ps : List (List UInt8)) : List (List UInt8) := (ps.map trimL).filter (fun p => !p.isEmpty)
def splitL (l : List UInt8) : List (List UInt8) := (memL (cutL 44 l)).take 64
theorem cutF_fuel {sep : UInt8} : ∀ (f g : Nat) (q : Bool) (l acc : List UInt8), l.length ≤ f → l.length ≤ g → cutF sep f q l acc = cutF sep g q l acc
  | f, g, q, [], acc, _, _ => by cases f <;> cases g <;> rfl
  | 0, g, q, c :: r, acc, h, _ => by simp at h
  | f + 1, 0, q, c :: r, acc, _, h => by simp at h
  | f + 1, g + 1, q, c :: r, acc, hf, hg => by
    simp only [List.length_cons] at hf hg
    unfold cutF
    split
    · split
      · rfl
      · rename_i d r2
        simp only [List.length_cons] at hf hg
        exact cutF_fuel f g q r2 _ (by omega) (by omega)
    · split
      · exact cutF_fuel f g (!q) r _ (by omega) (by omega)
      · split
        · rw [cutF_fuel f g q r _ (by omega) (by omega)]
        · exact cutF_fuel f g q r _ (by omega) (by omega)
theorem cutF_cons (sep : UInt8) (f : Nat) (q : Bool) (c : UInt8) (r acc : List UInt8) : cutF sep (f + 1) q (c :: r) acc = if q = true ∧ c = 92 then (match r with | [] => [acc ++ [c]] | d :: r2 => cutF sep f q r2 (acc ++ [c, d])) else if c = 34 then cutF sep f (!q) r (acc ++ [c]) else if c = sep ∧ q = false then acc :: cutF sep f q r [] else cutF sep f q r (acc ++ [c]) := rfl
theorem endF_cons (f : Nat) (q : Bool) (c : UInt8) (r : List UInt8) : endF (f + 1) q (c :: r) = if q = true ∧ c = 92 then (match r with | [] => true | _ :: r2 => endF f q r2) else if c = 34 then endF f (!q) r else endF f q r := rfl
theorem cutF_nil (sep : UInt8) (f : Nat) (q : Bool) (acc : List UInt8) : cutF sep f q [] acc = [acc] := by cases f <;> rfl
theorem endF_nil (f : Nat) (q : Bool) : endF f q [] = q := by cases f <;> rfl
theorem memL_append (a b : List (List UInt8)) : memL (a ++ b) = memL a ++ memL b := by unfold memL; rw [List.map_append, List.filter_append]
theorem memL_one {p : List UInt8} (h : trimL p ≠ []) : memL [p] = [trimL p] := by
  unfold memL
  cases hq : trimL p with
  | nil => exact absurd hq h
  | cons c r => simp [hq]
end
section
/-- no separator outside quoted strings -/
def ncF (sep : UInt8) : Nat → Bool → List UInt8 → Bool
  | 0, _, _ => true
  | _ + 1, _, [] => true
  | f + 1, q, c :: r =>
    if q = true ∧ c = 92 then (match r with | [] => true | _ :: r2 => ncF sep f q r2)
    else if c = 34 then ncF sep f (!q) r
    else if c = sep ∧ q = false then false
    else ncF sep f q r
def ncL (sep : UInt8) (q : Bool) (l : List UInt8) : Bool := ncF sep l.length q l
theorem ncF_cons (sep : UInt8) (f : Nat) (q : Bool) (c : UInt8) (r : List UInt8) : ncF sep (f + 1) q (c :: r) = if q = true ∧ c = 92 then (match r with | [] => true | _ :: r2 => ncF sep f q r2) else if c = 34 then ncF sep f (!q) r else if c = sep ∧ q = false then false else ncF sep f q r := rfl
theorem ncF_fuel {sep : UInt8} : ∀ (f g : Nat) (q : Bool) (l : List UInt8), l.length ≤ f → l.length ≤ g → ncF sep f q l = ncF sep g q l
  | f, g, q, [], _, _ => by cases f <;> cases g <;> rfl
  | 0, g, q, c :: r, h, _ => by simp at h
  | f + 1, 0, q, c :: r, _, h => by simp at h
  | f + 1, g + 1, q, c :: r, hf, hg => by
    simp only [List.length_cons] at hf hg
    rw [ncF_cons, ncF_cons]
    split
    · match r, hf, hg with
      | [], _, _ => rfl
      | d :: r2, hf, hg =>
        simp only [List.length_cons] at hf hg
        exact ncF_fuel f g q r2 (by omega) (by omega)
    · split
      · exact ncF_fuel f g (!q) r (by omega) (by omega)
      · split
        · rfl
        · exact ncF_fuel f g q r (by omega) (by omega)
theorem nc_esc {sep : UInt8} {q : Bool} {c d : UInt8} {r : List UInt8} (h : q = true ∧ c = 92) : ncL sep q (c :: d :: r) = ncL sep q r := by
  unfold ncL
  show ncF sep (r.length + 1 + 1) q (c :: d :: r) = _
  rw [ncF_cons, if_pos h]
  exact ncF_fuel _ _ q r (by omega) (by omega)
theorem nc_quo {sep : UInt8} {q : Bool} {c : UInt8} {r : List UInt8} (h1 : ¬ (q = true ∧ c = 92)) (h : c = 34) : ncL sep q (c :: r) = ncL sep (!q) r := by
  unfold ncL
  show ncF sep (r.length + 1) q (c :: r) = _
  rw [ncF_cons, if_neg h1, if_pos h]
theorem nc_any {sep : UInt8} {q : Bool} {c : UInt8} {r : List UInt8} (h1 : ¬ (q = true ∧ c = 92)) (h2 : c ≠ 34) (h : ¬ (c = sep ∧ q = false)) : ncL sep q (c :: r) = ncL sep q r := by
  unfold ncL
  show ncF sep (r.length + 1) q (c :: r) = _
  rw [ncF_cons, if_neg h1, if_neg h2, if_neg h]
end
section
abbrev F := ByteArray × ByteArray
/-- has the name -/
def nmd (nm : ByteArray) (p : F) : Bool := foldL p.1.data.toList nm.data.toList
def getL (nm : ByteArray) (L : List F) : List ByteArray := (L.filter (nmd nm)).map (·.2)
def okF (p : F) : Bool := decide (p.1.size ≤ 300) && decide (p.2.size ≤ 300)
def keepF (L : List F) : Bool := L.all okF && decide (L.length ≤ 70)
theorem take_next {α : Type} {L : List α} {k : Nat} (h : k < L.length) : L.take (k + 1) = L.take k ++ [L[k]] := List.take_succ_eq_append_getElem h
theorem keep_more {L : List F} {k : Nat} (h : k < L.length) (ha : (L.take k).all okF = true) (h1 : L[k].1.size ≤ 300) (h2 : L[k].2.size ≤ 300) : (L.take (k + 1)).all okF = true := by
  rw [take_next h, List.all_append, ha]
  simp [okF, h1, h2]
theorem keep_bad {L : List F} {k : Nat} (h : k < L.length) (h1 : ¬ (L[k].1.size ≤ 300 ∧ L[k].2.size ≤ 300)) : keepF L = false := by
  have : L.all okF = false := by
    rw [← Bool.not_eq_true]; intro ha
    have := List.all_eq_true.mp ha L[k] (List.getElem_mem h)
    simp only [okF, Bool.and_eq_true, decide_eq_true_eq] at this
    exact h1 this
  unfold keepF; rw [this]; rfl
theorem keep_long {L : List F} (h : ¬ L.length ≤ 70) : keepF L = false := by unfold keepF; simp [h]
theorem keep_end {L : List F} (ha : (L.take L.length).all okF = true) (h : L.length ≤ 70) : keepF L = true := by
  rw [List.take_length] at ha
  unfold keepF; rw [ha]; simp [h]
theorem keep_parts {L : List F} (h : keepF L = true) : L.length ≤ 70 ∧ ∀ i (hi : i < L.length), L[i].1.size ≤ 300 ∧ L[i].2.size ≤ 300 := by
  unfold keepF at h
  simp only [Bool.and_eq_true, decide_eq_true_eq] at h
  refine ⟨h.2, fun i hi => ?_⟩
  have := List.all_eq_true.mp h.1 L[i] (List.getElem_mem hi)
  simpa [okF] using this
/-- the place of the first one with the name, or -1 -/
def idxL (nm : ByteArray) (L : List F) : Int := if L.any (nmd nm) then ((L.takeWhile fun p => !nmd nm p).length : Int) else -1
theorem none_not {nm : ByteArray} {l : List F} (h : l.any (nmd nm) = false) : ∀ p ∈ l, nmd nm p = false := fun p hp => by
  have := List.any_eq_false.mp h p hp; simpa using this
theorem none_more {nm : ByteArray} {L : List F} {k : Nat} (h : k < L.length) (ha : (L.take k).any (nmd nm) = false) (h1 : nmd nm L[k] = false) : (L.take (k + 1)).any (nmd nm) = false := by
  rw [take_next h, List.any_append, ha]; simp [h1]
theorem split_at {α : Type} {L : List α} {k : Nat} (h : k < L.length) : L = L.take k ++ L[k] :: L.drop (k + 1) := by
  rw [← List.drop_eq_getElem_cons h, List.take_append_drop]
theorem while_not {nm : ByteArray} {l r : List F} (h : l.any (nmd nm) = false) : (l ++ r).takeWhile (fun p => !nmd nm p) = l ++ r.takeWhile (fun p => !nmd nm p) :=
  List.takeWhile_append_of_pos (fun p hp => by rw [none_not h p hp]; rfl)
theorem idx_hit {nm : ByteArray} {L : List F} {k : Nat} (h : k < L.length) (ha : (L.take k).any (nmd nm) = false) (h1 : nmd nm L[k] = true) : idxL nm L = k := by
  have e := split_at h
  have hany : L.any (nmd nm) = true := List.any_eq_true.mpr ⟨L[k], List.getElem_mem h, h1⟩
  unfold idxL
  rw [if_pos hany]
  have : (L.takeWhile fun p => !nmd nm p) = L.take k := by
    conv => lhs; rw [e]
    rw [while_not ha, List.takeWhile_cons, h1]; simp
  rw [this, List.length_take, Nat.min_eq_left (Nat.le_of_lt h)]
theorem idx_end {nm : ByteArray} {L : List F} (ha : (L.take L.length).any (nmd nm) = false) : idxL nm L = -1 := by
  rw [List.take_length] at ha
  unfold idxL; rw [if_neg (by simp [ha])]
theorem idx_any {nm : ByteArray} {L : List F} : decide (0 ≤ idxL nm L) = L.any (nmd nm) := by
  unfold idxL
  rcases h : L.any (nmd nm) with _ | _ <;> simp
/-- the two ways of an index -/
theorem idx_ways (nm : ByteArray) (L : List F) : (idxL nm L = -1 ∧ L.any (nmd nm) = false) ∨ ∃ k : Nat, ∃ h : k < L.length, idxL nm L = k ∧ (L.take k).any (nmd nm) = false ∧ nmd nm L[k] = true := by
  rcases h : L.any (nmd nm) with _ | _
  · exact .inl ⟨by unfold idxL; rw [if_neg (by simp [h])], rfl⟩
  · right
    obtain ⟨k, hk, h1, h2⟩ : ∃ k, ∃ hk : k < L.length, nmd nm L[k] = true ∧ (L.take k).any (nmd nm) = false := by
      induction L with
      | nil => cases h
      | cons p L ih =>
        rcases hp : nmd nm p with _ | _
        · rw [List.any_cons, hp, Bool.false_or] at h
          obtain ⟨k, hk, h1, h2⟩ := ih h
          exact ⟨k + 1, by simpa using hk, by simpa using h1, by rw [List.take_succ_cons, List.any_cons, hp, h2]; rfl⟩
        · exact ⟨0, by simp, by simpa using hp, rfl⟩
    exact ⟨k, hk, idx_hit hk h2 h1, h2, h1⟩
end
section
def allF (vs : List ByteArray) : List (List UInt8) := vs.flatMap fun v => splitL v.data.toList
def allL (nm : ByteArray) (L : List F) : List (List UInt8) := (allF (getL nm L)).take 64
theorem take_two {α : Type} (A B : List α) (n : Nat) : (A.take n ++ B.take n).take n = (A ++ B).take n := by
  rw [List.take_append, List.take_append, List.take_take, Nat.min_self, List.length_take]
  by_cases h : A.length ≤ n
  · rw [Nat.min_eq_right h, List.take_take, Nat.min_eq_left (by omega)]
  · have e1 : n - min n A.length = 0 := by omega
    have e2 : n - A.length = 0 := by omega
    rw [e1, e2]; simp
/-- the members so far, of the first k pieces -/
theorem mem_more {ps : List (List UInt8)} {k : Nat} (h : k < ps.length) : memL (ps.take (k + 1)) = memL (ps.take k) ++ (if trimL ps[k] = [] then [] else [trimL ps[k]]) := by
  rw [List.take_add_one, List.getElem?_eq_getElem h]
  simp only [Option.toList_some]
  rw [memL_append]
  congr 1
  split
  · rename_i e; unfold memL; simp [e]
  · rename_i e; exact memL_one e
theorem mem_full {ps : List (List UInt8)} {k : Nat} (h : (memL (ps.take k)).length = 64) : (memL ps).take 64 = memL (ps.take k) := by
  have e := List.take_append_drop k ps
  have : memL ps = memL (ps.take k) ++ memL (ps.drop k) := by rw [← memL_append, e]
  rw [this, List.take_append_of_le_length (by omega), List.take_of_length_le (by omega)]
theorem mem_end {ps : List (List UInt8)} {k : Nat} (h : ps.length ≤ k) (h2 : (memL (ps.take k)).length ≤ 64) : (memL ps).take 64 = memL (ps.take k) := by
  rw [List.take_of_length_le h] at h2 ⊢
  exact List.take_of_length_le h2
theorem allF_more {vs : List ByteArray} {k : Nat} (h : k < vs.length) : (allF (vs.take (k + 1))).take 64 = ((allF (vs.take k)).take 64 ++ splitL vs[k].data.toList).take 64 := by
  have e : vs.take (k + 1) = vs.take k ++ [vs[k]] := by rw [List.take_add_one, List.getElem?_eq_getElem h]; rfl
  rw [e]
  unfold allF
  rw [List.flatMap_append]
  simp only [List.flatMap_cons, List.flatMap_nil, List.append_nil]
  have hs : splitL vs[k].data.toList = (splitL vs[k].data.toList).take 64 := by
    rw [List.take_of_length_le]; unfold splitL; rw [List.length_take]; omega
  have t := take_two (vs.take k |>.flatMap fun v => splitL v.data.toList) (splitL vs[k].data.toList) 64
  rw [← hs] at t
  exact t.symm
theorem split_len (l : List UInt8) : (splitL l).length ≤ 64 := by unfold splitL; rw [List.length_take]; omega
/-- sizes: a piece is no longer than the list, nor is a member -/
theorem cut_small {sep : UInt8} : ∀ (f : Nat) (q : Bool) (l acc : List UInt8), ∀ p ∈ cutF sep f q l acc, p.length ≤ acc.length + l.length
  | f, q, [], acc, p, hp => by rw [cutF_nil, List.mem_singleton] at hp; subst hp; simp
  | 0, q, c :: r, acc, p, hp => by
    unfold cutF at hp
    rw [List.mem_singleton] at hp; subst hp; simp
  | f + 1, q, c :: r, acc, p, hp => by
    rw [cutF_cons] at hp
    simp only [List.length_cons]
    split at hp
    · match r, hp with
      | [], hp => simp only [List.mem_singleton] at hp; subst hp; simp
      | d :: r2, hp =>
        have := cut_small f q r2 _ p hp
        simp only [List.length_append, List.length_cons, List.length_nil] at this ⊢; omega
    · split at hp
      · have := cut_small f (!q) r _ p hp
        simp only [List.length_append, List.length_cons, List.length_nil] at this ⊢; omega
      · split at hp
        · rcases List.mem_cons.mp hp with e | hp
          · subst e; omega
          · have := cut_small f q r [] p hp
            simp only [List.length_nil] at this; omega
        · have := cut_small f q r _ p hp
          simp only [List.length_append, List.length_cons, List.length_nil] at this ⊢; omega
theorem cut_count {sep : UInt8} : ∀ (f : Nat) (q : Bool) (l acc : List UInt8), (cutF sep f q l acc).length ≤ l.length + 1
  | f, q, [], acc => by rw [cutF_nil]; simp
  | 0, q, c :: r, acc => by unfold cutF; simp
  | f + 1, q, c :: r, acc => by
    rw [cutF_cons]
    simp only [List.length_cons]
    split
    · match r with
      | [] => simp
      | d :: r2 =>
        have := cut_count (sep := sep) f q r2 (acc ++ [c, d])
        simp only [List.length_cons] at this ⊢; omega
    · split
      · have := cut_count (sep := sep) f (!q) r (acc ++ [c]); omega
      · split
        · have := cut_count (sep := sep) f q r []
          simp only [List.length_cons] at this ⊢; omega
        · have := cut_count (sep := sep) f q r (acc ++ [c]); omega
theorem split_small {l m : List UInt8} (h : m ∈ splitL l) : m.length ≤ l.length := by
  have h1 := List.mem_of_mem_take h
  unfold memL at h1
  obtain ⟨h2, _⟩ := List.mem_filter.mp h1
  obtain ⟨p, hp, rfl⟩ := List.mem_map.mp h2
  have := cut_small _ _ _ _ p hp
  have := trim_le p
  simp at *; omega
end
section
/-- where a cut stands: at place k, the piece begun at place n -/
def cutAt (sep : UInt8) (l : List UInt8) (q : Bool) (k n : Nat) : List (List UInt8) := cutF sep (l.length - k) q (l.drop k) ((l.take k).drop n)
theorem cut_start (sep : UInt8) (l : List UInt8) : cutL sep l = cutAt sep l false 0 0 := by unfold cutL cutAt; simp
theorem acc_next {l : List UInt8} {k n : Nat} (hk : k < l.length) (hn : n ≤ k) : (l.take k).drop n ++ [l[k]] = (l.take (k + 1)).drop n := by
  rw [List.take_add_one, List.getElem?_eq_getElem hk, List.drop_append_of_le_length (by rw [List.length_take]; omega)]; rfl
theorem cut_fuel1 {l : List UInt8} {k : Nat} (hk : k < l.length) : l.length - k = (l.length - (k + 1)) + 1 := by omega
theorem cut_drop {l : List UInt8} {k : Nat} (hk : k < l.length) : l.drop k = l[k] :: l.drop (k + 1) := List.drop_eq_getElem_cons hk
theorem cut_out {sep : UInt8} {l : List UInt8} {q : Bool} {k n : Nat} (hk : l.length ≤ k) : cutAt sep l q k n = [l.drop n] := by
  unfold cutAt; rw [List.drop_of_length_le hk, cutF_nil, List.take_of_length_le hk]
theorem cut_esc {sep : UInt8} {l : List UInt8} {k n : Nat} (hk : k < l.length) (hn : n ≤ k) (h : l[k] = 92) : cutAt sep l true k n = cutAt sep l true (k + 2) n := by
  unfold cutAt
  rw [cut_fuel1 hk, cut_drop hk, cutF_cons, if_pos ⟨rfl, h⟩]
  by_cases h2 : k + 1 < l.length
  · rw [cut_drop h2]
    simp only
    have e : (l.take k).drop n ++ [l[k], l[k + 1]] = (l.take (k + 2)).drop n := by
      rw [← acc_next h2 (by omega), ← acc_next hk hn, List.append_assoc]; rfl
    rw [e]
    exact cutF_fuel _ _ _ _ _ (by rw [List.length_drop]; omega) (by rw [List.length_drop]; omega)
  · have e1 : l.drop (k + 1) = [] := List.drop_of_length_le (by omega)
    have e2 : l.drop (k + 2) = [] := List.drop_of_length_le (by omega)
    have e3 : l.take (k + 2) = l.take (k + 1) := by rw [List.take_of_length_le (by omega), List.take_of_length_le (by omega)]
    rw [e1, e2, cutF_nil, e3, ← acc_next hk hn]
theorem cut_quo {sep : UInt8} {l : List UInt8} {q : Bool} {k n : Nat} (hk : k < l.length) (hn : n ≤ k) (h1 : ¬ (q = true ∧ l[k] = 92)) (h : l[k] = 34) : cutAt sep l q k n = cutAt sep l (!q) (k + 1) n := by
  unfold cutAt
  rw [cut_fuel1 hk, cut_drop hk, cutF_cons, if_neg h1, if_pos h, acc_next hk hn]
theorem cut_sep {sep : UInt8} {l : List UInt8} {k n : Nat} (hk : k < l.length) (h2 : l[k] ≠ 34) (h : l[k] = sep) : cutAt sep l false k n = (l.take k).drop n :: cutAt sep l false (k + 1) (k + 1) := by
  unfold cutAt
  rw [cut_fuel1 hk, cut_drop hk, cutF_cons, if_neg (by simp), if_neg h2, if_pos ⟨h, rfl⟩, List.drop_of_length_le (l := l.take (k + 1)) (by rw [List.length_take]; omega)]
theorem cut_any {sep : UInt8} {l : List UInt8} {q : Bool} {k n : Nat} (hk : k < l.length) (hn : n ≤ k) (h1 : ¬ (q = true ∧ l[k] = 92)) (h2 : l[k] ≠ 34) (h : ¬ (l[k] = sep ∧ q = false)) : cutAt sep l q k n = cutAt sep l q (k + 1) n := by
  unfold cutAt
  rw [cut_fuel1 hk, cut_drop hk, cutF_cons, if_neg h1, if_neg h2, if_neg h, acc_next hk hn]
end
section
/-- is a byte behind the list within a quoted string? (as endF, with its own length) -/
def endQ (q : Bool) (l : List UInt8) : Bool := endF l.length q l
theorem endF_fuel : ∀ (f g : Nat) (q : Bool) (l : List UInt8), l.length ≤ f → l.length ≤ g → endF f q l = endF g q l := by
  intro f
  induction f with
  | zero => intro g q l hf hg; have : l = [] := List.eq_nil_of_length_eq_zero (by omega); subst this; rw [endF_nil, endF_nil]
  | succ f ih =>
    intro g q l hf hg
    match l, g with
    | [], g => rw [endF_nil, endF_nil]
    | c :: r, 0 => simp at hg
    | c :: r, g + 1 =>
      simp only [List.length_cons] at hf hg
      rw [endF_cons, endF_cons]
      split
      · match r, hf, hg with
        | [], _, _ => rfl
        | d :: r2, hf, hg =>
          simp only [List.length_cons] at hf hg
          exact ih g q r2 (by omega) (by omega)
      · split
        · exact ih g (!q) r (by omega) (by omega)
        · exact ih g q r (by omega) (by omega)
theorem endL_esc (d : UInt8) (r : List UInt8) : endQ true (92 :: d :: r) = endQ true r := by
  unfold endQ
  show endF (r.length + 1 + 1) true (92 :: d :: r) = _
  rw [endF_cons, if_pos ⟨rfl, rfl⟩]
  exact endF_fuel _ _ _ _ (by omega) (by omega)
theorem endL_quo {q : Bool} {c : UInt8} {r : List UInt8} (h1 : ¬ (q = true ∧ c = 92)) (h : c = 34) : endQ q (c :: r) = endQ (!q) r := by
  unfold endQ
  show endF (r.length + 1) q (c :: r) = _
  rw [endF_cons, if_neg h1, if_pos h]
theorem endL_any {q : Bool} {c : UInt8} {r : List UInt8} (h1 : ¬ (q = true ∧ c = 92)) (h : c ≠ 34) : endQ q (c :: r) = endQ q r := by
  unfold endQ
  show endF (r.length + 1) q (c :: r) = _
  rw [endF_cons, if_neg h1, if_neg h]
/-- what has been escaped, a quote behind it, leads out of the quoted string -/
theorem end_quoted (y : List UInt8) : ∀ l : List UInt8, endQ true (escL l ++ 34 :: y) = endQ false y
  | [] => endL_quo (by simp) rfl
  | c :: r => by
    have e : escL (c :: r) = escB c ++ escL r := rfl
    rw [e]
    unfold escB
    by_cases h : c = 34 ∨ c = 92
    · rw [if_pos h]
      show endQ true (92 :: c :: (escL r ++ 34 :: y)) = _
      rw [endL_esc]; exact end_quoted y r
    · rw [if_neg h]
      show endQ true (c :: (escL r ++ 34 :: y)) = _
      rw [endL_any (fun q => h (.inr q.2)) (fun q => h (.inl q))]; exact end_quoted y r
theorem nc_quoted (sep : UInt8) (y : List UInt8) : ∀ l : List UInt8, ncL sep true (escL l ++ 34 :: y) = ncL sep false y
  | [] => nc_quo (by simp) rfl
  | c :: r => by
    have e : escL (c :: r) = escB c ++ escL r := rfl
    rw [e]
    unfold escB
    by_cases h : c = 34 ∨ c = 92
    · rw [if_pos h]
      show ncL sep true (92 :: c :: (escL r ++ 34 :: y)) = _
      rw [nc_esc ⟨rfl, rfl⟩]; exact nc_quoted sep y r
    · rw [if_neg h]
      show ncL sep true (c :: (escL r ++ 34 :: y)) = _
      rw [nc_any (fun q => h (.inr q.2)) (fun q => h (.inl q)) (by simp)]; exact nc_quoted sep y r
/-- a piece: no separator outside quoted strings, none of which is open at its end -/
def Piece (sep : UInt8) (p : List UInt8) : Prop := ncL sep false p = true ∧ endQ false p = false
theorem Piece.nil (sep : UInt8) : Piece sep [] := ⟨rfl, rfl⟩
theorem Piece.cons {sep c : UInt8} {p : List UInt8} (h1 : c ≠ 34) (h2 : c ≠ sep) (h : Piece sep p) : Piece sep (c :: p) :=
  ⟨by rw [nc_any (by simp) h1 (fun q => h2 q.1)]; exact h.1, by rw [endL_any (by simp) h1]; exact h.2⟩
theorem Piece.plain {sep : UInt8} : ∀ {a p : List UInt8}, (∀ c ∈ a, c ≠ 34 ∧ c ≠ sep) → Piece sep p → Piece sep (a ++ p)
  | [], p, _, h => h
  | c :: r, p, ha, h => Piece.cons (ha c (by simp)).1 (ha c (by simp)).2 (Piece.plain (fun d hd => ha d (by simp [hd])) h)
theorem Piece.quote (sep : UInt8) (l : List UInt8) {p : List UInt8} (h : Piece sep p) : Piece sep (quoteL l ++ p) := by
  have e : quoteL l ++ p = 34 :: (escL l ++ 34 :: p) := by unfold quoteL; simp
  rw [e]
  exact ⟨by rw [nc_quo (by simp) rfl]; exact (nc_quoted sep p l).trans h.1, by rw [endL_quo (by simp) rfl]; exact (end_quoted p l).trans h.2⟩
end
section
def tkB (c : UInt8) : Bool := tokI c.toNat
/-- a member's name and what follows it -/
def namD (m : List UInt8) : List UInt8 := m.takeWhile tkB
def rstD (m : List UInt8) : List UInt8 := m.dropWhile tkB
/-- is it a directive of this name? -/
def isD (n m : List UInt8) : Bool := !(namD m).isEmpty && foldL (namD m) n
/-- what follows the first directive of a name -/
def dirD (n : List UInt8) (M : List (List UInt8)) : Option (List UInt8) := (M.find? (isD n)).map rstD
def argD : List UInt8 → Option (List UInt8)
  | [] => none
  | c :: a => if c = 61 then (if tokL a = true then some a else unqL a) else none
def numD (bare bad : Int) (r : List UInt8) : Int := if r = [] then bare else match argD r with | none => bad | some a => (numL a).getD bad
def secO (bare bad : Int) : Option (List UInt8) → Int
  | none => -1
  | some r => numD bare bad r
def secD (n : List UInt8) (bare bad : Int) (M : List (List UInt8)) : Int := secO bare bad (dirD n M)
/-- what a control holds -/
structure CT where
  ns : Bool
  nc : Bool
  mr : Bool
  pr : Bool
  pv : Bool
  pb : Bool
  oc : Bool
  ma : Int
  sm : Int
  mf : Int
  ms : Int
  deriving DecidableEq
def nsN : List UInt8 := [110, 111, 45, 115, 116, 111, 114, 101]
def ncN : List UInt8 := [110, 111, 45, 99, 97, 99, 104, 101]
def mrN : List UInt8 := [109, 117, 115, 116, 45, 114, 101, 118, 97, 108, 105, 100, 97, 116, 101]
def prN : List UInt8 := [112, 114, 111, 120, 121, 45, 114, 101, 118, 97, 108, 105, 100, 97, 116, 101]
def pvN : List UInt8 := [112, 114, 105, 118, 97, 116, 101]
def pbN : List UInt8 := [112, 117, 98, 108, 105, 99]
def ocN : List UInt8 := [111, 110, 108, 121, 45, 105, 102, 45, 99, 97, 99, 104, 101, 100]
def maN : List UInt8 := [109, 97, 120, 45, 97, 103, 101]
def smN : List UInt8 := [115, 45, 109, 97, 120, 97, 103, 101]
def mfN : List UInt8 := [109, 105, 110, 45, 102, 114, 101, 115, 104]
def msN : List UInt8 := [109, 97, 120, 45, 115, 116, 97, 108, 101]
def ccN : ByteArray := ⟨#[67, 97, 99, 104, 101, 45, 67, 111, 110, 116, 114, 111, 108]⟩
def pgN : ByteArray := ⟨#[80, 114, 97, 103, 109, 97]⟩
/-- the control of members, without what their number asks -/
def ctl0 (M : List (List UInt8)) : CT :=
  { ns := (dirD nsN M).isSome, nc := (dirD ncN M).isSome, mr := (dirD mrN M).isSome, pr := (dirD prN M).isSome, pv := (dirD pvN M).isSome, pb := (dirD pbN M).isSome, oc := (dirD ocN M).isSome,
    ma := secD maN 0 0 M, sm := secD smN 0 0 M, mf := secD mfN 2147483647 2147483647 M, ms := secD msN 2147483647 0 M }
/-- 22.2 -/
def respC (M : List (List UInt8)) : CT := { ctl0 M with ns := (dirD nsN M).isSome || decide (64 ≤ M.length) }
/-- 22.3 -/
def pragC (P : List (List UInt8)) : Bool := P.any fun m => foldL m ncN
def reqC (cc : Bool) (M P : List (List UInt8)) : CT := { respC M with nc := (dirD ncN M).isSome || (!cc && pragC P) }
theorem numF_le (l : List UInt8) (h : allI digitI l = true) : 0 ≤ numF l := by
  rw [numF_eq l h]
  have : ∀ (l : List UInt8), allI digitI l = true → ∀ v : Int, 0 ≤ v → 0 ≤ valF v l := by
    intro l
    induction l with
    | nil => intro _ v hv; exact hv
    | cons c l ih =>
      intro h v hv
      have hc : digitI c.toNat = true ∧ allI digitI l = true := by simpa [allI] using h
      have hd := digitI_bd hc.1
      show 0 ≤ valF (v * 10 + ((c.toNat : Int) - 48)) l
      exact ih hc.2 _ (by omega)
  have := this l h 0 (Int.le_refl _)
  omega
theorem numL_le {l : List UInt8} {v : Int} (h : numL l = some v) : 0 ≤ v := by
  unfold numL at h
  split at h
  · rename_i hd; cases h; exact numF_le l hd.1
  · cases h
theorem numD_le {bare bad : Int} (h1 : 0 ≤ bare) (h2 : 0 ≤ bad) (r : List UInt8) : 0 ≤ numD bare bad r := by
  unfold numD
  split
  · exact h1
  · split
    · exact h2
    · rename_i a _
      cases hn : numL a with
      | none => exact h2
      | some v => exact numL_le hn
theorem secO_is {bare bad : Int} (h1 : 0 ≤ bare) (h2 : 0 ≤ bad) (o : Option (List UInt8)) : (secO bare bad o = -1) ↔ o = none := by
  cases o with
  | none => simp [secO]
  | some r => have := numD_le h1 h2 r; simp [secO]; omega
theorem dirD_snoc (n : List UInt8) (M : List (List UInt8)) (m : List UInt8) : dirD n (M ++ [m]) = (dirD n M).or (if isD n m = true then some (rstD m) else none) := by
  unfold dirD
  rw [List.find?_append]
  cases h : M.find? (isD n) with
  | some x => simp
  | none =>
    simp only [Option.none_or, Option.map_none]
    cases h2 : isD n m with
    | true => simp [List.find?, h2]
    | false => simp [List.find?, h2]
theorem some_snoc (n : List UInt8) (M : List (List UInt8)) (m : List UInt8) : (dirD n (M ++ [m])).isSome = ((dirD n M).isSome || isD n m) := by
  rw [dirD_snoc]
  cases dirD n M with
  | some x => simp
  | none => cases isD n m <;> simp
theorem sec_snoc (n : List UInt8) {bare bad : Int} (h1 : 0 ≤ bare) (h2 : 0 ≤ bad) (M : List (List UInt8)) (m : List UInt8) :
    secD n bare bad (M ++ [m]) = if isD n m = true ∧ secD n bare bad M = -1 then numD bare bad (rstD m) else secD n bare bad M := by
  have hq := secO_is h1 h2 (dirD n M)
  unfold secD
  rw [dirD_snoc]
  cases h : dirD n M with
  | some x =>
    rw [h] at hq
    have hq2 : secO bare bad (some x) ≠ -1 := fun e => absurd (hq.1 e) (by simp)
    simp only [Option.some_or]
    rw [if_neg (fun q => hq2 q.2)]
  | none =>
    cases h3 : isD n m with
    | true => simp [secO]
    | false => simp [secO]
/-- a name in lower case: equality of the member's name in lower case -/
theorem isD_low {n m : List UInt8} (h : lowL n = n) (hn : n ≠ []) : isD n m = decide (lowL (namD m) = n) := by
  unfold isD foldL
  rw [h]
  cases hm : namD m with
  | nil =>
    have : ¬ (lowL [] = n) := fun e => hn e.symm
    rw [decide_eq_false this]; simp
  | cons c r => simp
/-- one member more -/
def stepC (c : CT) (x r : List UInt8) : CT :=
  { ns := c.ns || decide (x = nsN), nc := c.nc || decide (x = ncN), mr := c.mr || decide (x = mrN), pr := c.pr || decide (x = prN), pv := c.pv || decide (x = pvN), pb := c.pb || decide (x = pbN), oc := c.oc || decide (x = ocN),
    ma := if x = maN ∧ c.ma = -1 then numD 0 0 r else c.ma, sm := if x = smN ∧ c.sm = -1 then numD 0 0 r else c.sm,
    mf := if x = mfN ∧ c.mf = -1 then numD 2147483647 2147483647 r else c.mf, ms := if x = msN ∧ c.ms = -1 then numD 2147483647 0 r else c.ms }
theorem ctl0_snoc (M : List (List UInt8)) (m : List UInt8) : ctl0 (M ++ [m]) = stepC (ctl0 M) (lowL (namD m)) (rstD m) := by
  have e1 := isD_low (n := nsN) (m := m) (by decide) (by decide)
  have e2 := isD_low (n := ncN) (m := m) (by decide) (by decide)
  have e3 := isD_low (n := mrN) (m := m) (by decide) (by decide)
  have e4 := isD_low (n := prN) (m := m) (by decide) (by decide)
  have e5 := isD_low (n := pvN) (m := m) (by decide) (by decide)
  have e6 := isD_low (n := pbN) (m := m) (by decide) (by decide)
  have e7 := isD_low (n := ocN) (m := m) (by decide) (by decide)
  have e8 := isD_low (n := maN) (m := m) (by decide) (by decide)
  have e9 := isD_low (n := smN) (m := m) (by decide) (by decide)
  have e10 := isD_low (n := mfN) (m := m) (by decide) (by decide)
  have e11 := isD_low (n := msN) (m := m) (by decide) (by decide)
  unfold ctl0 stepC
  rw [some_snoc, some_snoc, some_snoc, some_snoc, some_snoc, some_snoc, some_snoc, sec_snoc _ (by decide) (by decide), sec_snoc _ (by decide) (by decide), sec_snoc _ (by decide) (by decide), sec_snoc _ (by decide) (by decide)]
  rw [e1, e2, e3, e4, e5, e6, e7, e8, e9, e10, e11]
  simp only [decide_eq_true_eq]
theorem ctl0_more {M : List (List UInt8)} {k : Nat} (h : k < M.length) : ctl0 (M.take (k + 1)) = stepC (ctl0 (M.take k)) (lowL (namD M[k])) (rstD M[k]) := by
  rw [List.take_succ_eq_append_getElem h, ctl0_snoc]
theorem prag_more {P : List (List UInt8)} {k : Nat} (h : k < P.length) : pragC (P.take (k + 1)) = (pragC (P.take k) || foldL P[k] ncN) := by
  rw [List.take_succ_eq_append_getElem h]; unfold pragC; simp only [List.any_append, List.any_cons, List.any_nil, Bool.or_false]
/-- the first of a name, found member by member -/
theorem dir_more {n : List UInt8} {M : List (List UInt8)} {k : Nat} (h : k < M.length) (h0 : dirD n (M.take k) = none) (h1 : isD n M[k] = false) : dirD n (M.take (k + 1)) = none := by
  rw [List.take_succ_eq_append_getElem h, dirD_snoc, h0, h1]; rfl
theorem find_take {α : Type} {p : α → Bool} {M : List α} {k : Nat} (h : k < M.length) (h0 : (M.take k).find? p = none) (h1 : p M[k] = true) : M.find? p = some M[k] := by
  have e : M = M.take k ++ M[k] :: M.drop (k + 1) := by rw [← List.drop_eq_getElem_cons h, List.take_append_drop]
  conv => lhs; rw [e]
  rw [List.find?_append, h0, List.find?_cons_of_pos h1]; rfl
theorem dir_hit {n : List UInt8} {M : List (List UInt8)} {k : Nat} (h : k < M.length) (h0 : dirD n (M.take k) = none) (h1 : isD n M[k] = true) : dirD n M = some (rstD M[k]) := by
  unfold dirD at h0 ⊢
  rw [find_take h (by simpa using h0) h1]; rfl
theorem nam_cut {l : List UInt8} {k : Nat} (hk : k ≤ l.length) (ha : allI tokI (l.take k) = true) (hb : ∀ h : k < l.length, tokI l[k].toNat = false) : namD l = l.take k ∧ rstD l = l.drop k := by
  have ha2 : ∀ c ∈ l.take k, tkB c = true := fun c hc => List.all_eq_true.mp ha c hc
  have e := List.take_append_drop k l
  have hd : (l.drop k).takeWhile tkB = [] ∧ (l.drop k).dropWhile tkB = l.drop k := by
    by_cases hlt : k < l.length
    · rw [List.drop_eq_getElem_cons hlt]
      have : ¬ tkB l[k] = true := by unfold tkB; rw [hb hlt]; simp
      rw [List.takeWhile_cons_of_neg this, List.dropWhile_cons_of_neg this]
      exact ⟨rfl, rfl⟩
    · rw [List.drop_eq_nil_of_le (by omega)]; exact ⟨rfl, rfl⟩
  constructor
  · unfold namD
    conv => lhs; rw [← e]
    rw [List.takeWhile_append_of_pos ha2, hd.1, List.append_nil]
  · unfold rstD
    conv => lhs; rw [← e]
    rw [List.dropWhile_append_of_pos ha2, hd.2]
theorem rst_len (m : List UInt8) : (rstD m).length ≤ m.length := (List.dropWhile_sublist _).length_le
theorem nam_len (m : List UInt8) : (namD m).length ≤ m.length := (List.takeWhile_sublist _).length_le
/-- what is quoted is no longer than its text -/
theorem unesc_len22 : ∀ (n : Nat) (l t : List UInt8), l.length ≤ n → unescL l = some t → t.length ≤ l.length
  | _, [], t, _, h => by
    have : t = [] := by simpa [unescL] using h.symm
    subst this; simp
  | 0, c :: r, t, hl, _ => by simp at hl
  | n + 1, c :: r, t, hl, h => by
    simp only [List.length_cons] at hl
    by_cases h34 : c = 34
    · subst h34; rw [unescL_q] at h; cases h
    · by_cases h92 : c = 92
      · subst h92
        match r, hl, h with
        | [], _, h => rw [unescL_e] at h; cases h
        | d :: r, hl, h =>
          rw [unescL_b] at h
          obtain ⟨u, hu, rfl⟩ := Option.map_eq_some_iff.1 h
          simp only [List.length_cons] at hl
          have := unesc_len22 n r u (by omega) hu
          simp only [List.length_cons]; omega
      · rw [unescL_o c r h34 h92] at h
        obtain ⟨u, hu, rfl⟩ := Option.map_eq_some_iff.1 h
        have := unesc_len22 n r u (by omega) hu
        simp only [List.length_cons]; omega
theorem unqL_len22 {l t : List UInt8} (h : unqL l = some t) : t.length ≤ l.length := by
  unfold unqL at h
  split at h
  · cases h
  · unfold unqIn at h
    split at h
    · have i1 := unesc_len22 _ _ t (Nat.le_refl _) h
      simp only [List.length_drop, List.length_take] at i1
      omega
    · cases h
end
end Go.Proofs.YtiogngfemelifaaGreatDoor.Asc
