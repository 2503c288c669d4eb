/- Plain functions on lists of fields: what the functions of layer 3 compute on them. No program is named here. -/
import Derived.Test.YtlcojfkkeommoaaFieSpec
set_option linter.unusedVariables false
set_option linter.unusedSimpArgs false
set_option maxRecDepth 100000
namespace Go.Proofs.Ytlcojfkkeommoaa.Asc

abbrev F := ByteArray × ByteArray
/-- has the name -/
def nmd (nm : ByteArray) (p : F) : Bool := foldL p.1.data.toList nm.data.toList
def getL (nm : ByteArray) (L : List F) : List ByteArray := (L.filter (nmd nm)).map (·.2)
def remL (nm : ByteArray) (L : List F) : List F := L.filter (fun p => !nmd nm p)
def setL (nm v : ByteArray) : List F → List F
  | [] => [(nm, v)]
  | p :: L => if nmd nm p then (p.1, v) :: remL nm L else p :: setL nm v L
def okF (p : F) : Bool := decide (p.1.size ≤ 300) && decide (p.2.size ≤ 300)
def keepF (L : List F) : Bool := L.all okF && decide (L.length ≤ 70)

theorem take_next {α : Type} {L : List α} {k : Nat} (h : k < L.length) : L.take (k + 1) = L.take k ++ [L[k]] := List.take_succ_eq_append_getElem h
theorem keep_more {L : List F} {k : Nat} (h : k < L.length) (ha : (L.take k).all okF = true) (h1 : L[k].1.size ≤ 300) (h2 : L[k].2.size ≤ 300) : (L.take (k + 1)).all okF = true := by
  rw [take_next h, List.all_append, ha]
  simp [okF, h1, h2]
theorem keep_bad {L : List F} {k : Nat} (h : k < L.length) (h1 : ¬ (L[k].1.size ≤ 300 ∧ L[k].2.size ≤ 300)) : keepF L = false := by
  have : L.all okF = false := by
    rw [← Bool.not_eq_true]; intro ha
    have := List.all_eq_true.mp ha L[k] (List.getElem_mem h)
    simp only [okF, Bool.and_eq_true, decide_eq_true_eq] at this
    exact h1 this
  unfold keepF; rw [this]; rfl
theorem keep_long {L : List F} (h : ¬ L.length ≤ 70) : keepF L = false := by unfold keepF; simp [h]
theorem keep_end {L : List F} (ha : (L.take L.length).all okF = true) (h : L.length ≤ 70) : keepF L = true := by
  rw [List.take_length] at ha
  unfold keepF; rw [ha]; simp [h]
theorem keep_parts {L : List F} (h : keepF L = true) : L.length ≤ 70 ∧ ∀ i (hi : i < L.length), L[i].1.size ≤ 300 ∧ L[i].2.size ≤ 300 := by
  unfold keepF at h
  simp only [Bool.and_eq_true, decide_eq_true_eq] at h
  refine ⟨h.2, fun i hi => ?_⟩
  have := List.all_eq_true.mp h.1 L[i] (List.getElem_mem hi)
  simpa [okF] using this

/-- the place of the first one with the name, or -1 -/
def idxL (nm : ByteArray) (L : List F) : Int := if L.any (nmd nm) then ((L.takeWhile fun p => !nmd nm p).length : Int) else -1
theorem none_not {nm : ByteArray} {l : List F} (h : l.any (nmd nm) = false) : ∀ p ∈ l, nmd nm p = false := fun p hp => by
  have := List.any_eq_false.mp h p hp; simpa using this
theorem none_more {nm : ByteArray} {L : List F} {k : Nat} (h : k < L.length) (ha : (L.take k).any (nmd nm) = false) (h1 : nmd nm L[k] = false) : (L.take (k + 1)).any (nmd nm) = false := by
  rw [take_next h, List.any_append, ha]; simp [h1]
theorem split_at {α : Type} {L : List α} {k : Nat} (h : k < L.length) : L = L.take k ++ L[k] :: L.drop (k + 1) := by
  rw [← List.drop_eq_getElem_cons h, List.take_append_drop]
theorem while_not {nm : ByteArray} {l r : List F} (h : l.any (nmd nm) = false) : (l ++ r).takeWhile (fun p => !nmd nm p) = l ++ r.takeWhile (fun p => !nmd nm p) :=
  List.takeWhile_append_of_pos (fun p hp => by rw [none_not h p hp]; rfl)
theorem idx_hit {nm : ByteArray} {L : List F} {k : Nat} (h : k < L.length) (ha : (L.take k).any (nmd nm) = false) (h1 : nmd nm L[k] = true) : idxL nm L = k := by
  have e := split_at h
  have hany : L.any (nmd nm) = true := List.any_eq_true.mpr ⟨L[k], List.getElem_mem h, h1⟩
  unfold idxL
  rw [if_pos hany]
  have : (L.takeWhile fun p => !nmd nm p) = L.take k := by
    conv => lhs; rw [e]
    rw [while_not ha, List.takeWhile_cons, h1]; simp
  rw [this, List.length_take, Nat.min_eq_left (Nat.le_of_lt h)]
theorem idx_end {nm : ByteArray} {L : List F} (ha : (L.take L.length).any (nmd nm) = false) : idxL nm L = -1 := by
  rw [List.take_length] at ha
  unfold idxL; rw [if_neg (by simp [ha])]
theorem idx_any {nm : ByteArray} {L : List F} : decide (0 ≤ idxL nm L) = L.any (nmd nm) := by
  unfold idxL
  rcases h : L.any (nmd nm) with _ | _ <;> simp
/-- the two ways of an index -/
theorem idx_ways (nm : ByteArray) (L : List F) : (idxL nm L = -1 ∧ L.any (nmd nm) = false) ∨ ∃ k : Nat, ∃ h : k < L.length, idxL nm L = k ∧ (L.take k).any (nmd nm) = false ∧ nmd nm L[k] = true := by
  rcases h : L.any (nmd nm) with _ | _
  · exact .inl ⟨by unfold idxL; rw [if_neg (by simp [h])], rfl⟩
  · right
    obtain ⟨k, hk, h1, h2⟩ : ∃ k, ∃ hk : k < L.length, nmd nm L[k] = true ∧ (L.take k).any (nmd nm) = false := by
      induction L with
      | nil => cases h
      | cons p L ih =>
        rcases hp : nmd nm p with _ | _
        · rw [List.any_cons, hp, Bool.false_or] at h
          obtain ⟨k, hk, h1, h2⟩ := ih h
          exact ⟨k + 1, by simpa using hk, by simpa using h1, by rw [List.take_succ_cons, List.any_cons, hp, h2]; rfl⟩
        · exact ⟨0, by simp, by simpa using hp, rfl⟩
    exact ⟨k, hk, idx_hit hk h2 h1, h2, h1⟩

theorem set_none {nm v : ByteArray} : ∀ {L : List F}, L.any (nmd nm) = false → setL nm v L = L ++ [(nm, v)]
  | [], _ => rfl
  | p :: L, h => by
    rw [List.any_cons] at h
    have h1 : nmd nm p = false := by cases q : nmd nm p <;> simp_all
    have h2 : L.any (nmd nm) = false := by rw [h1] at h; simpa using h
    rw [setL, h1, set_none h2]; rfl
theorem set_app {nm v : ByteArray} {r : List F} : ∀ {l : List F}, l.any (nmd nm) = false → setL nm v (l ++ r) = l ++ setL nm v r
  | [], _ => rfl
  | p :: l, h => by
    rw [List.any_cons] at h
    have h1 : nmd nm p = false := by cases q : nmd nm p <;> simp_all
    have h2 : l.any (nmd nm) = false := by rw [h1] at h; simpa using h
    show setL nm v (p :: (l ++ r)) = p :: (l ++ setL nm v r)
    rw [setL, h1, set_app h2]; rfl
theorem set_at {nm v : ByteArray} {L : List F} {k : Nat} (h : k < L.length) (ha : (L.take k).any (nmd nm) = false) (h1 : nmd nm L[k] = true) : setL nm v L = L.take k ++ [(L[k].1, v)] ++ remL nm (L.drop (k + 1)) := by
  conv => lhs; rw [split_at h]
  rw [set_app ha, setL, h1]; simp

end Go.Proofs.Ytlcojfkkeommoaa.Asc
