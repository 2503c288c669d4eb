/- What Set and Remove leave: plain facts on lists of fields. No program is named here. -/
import Derived.Test.YtmhedadollmekaaLstSpec
set_option linter.unusedVariables false
set_option linter.unusedSimpArgs false
namespace Go.Proofs.Ytmhedadollmekaa.Asc

theorem nmd_self (nm u : ByteArray) : nmd nm (nm, u) = true := by unfold nmd foldL; simp
theorem nmd_other {nm ot : ByteArray} (h : foldL nm.data.toList ot.data.toList = false) {p : F} (hp : nmd nm p = true) : nmd ot p = false := by
  unfold nmd foldL at *
  rw [← Bool.not_eq_true]; intro h2
  rw [decide_eq_true_eq] at hp h2
  rw [← hp, h2] at h; simp at h
theorem rem_none {nm : ByteArray} {L : List F} : (remL nm L).any (nmd nm) = false := by
  rw [List.any_eq_false]
  intro p hp
  have := (List.mem_filter.mp hp).2
  simpa using this
theorem get_rem {nm ot : ByteArray} (h : foldL nm.data.toList ot.data.toList = false) : ∀ {L : List F}, getL ot (remL nm L) = getL ot L
  | [] => rfl
  | p :: L => by
    have ih := get_rem h (L := L)
    unfold getL remL at *
    cases hp : nmd nm p
    · simp only [List.filter_cons, hp]
      cases ho : nmd ot p
      · simpa [ho] using ih
      · simpa [ho] using ih
    · have ho := nmd_other h hp
      simp only [List.filter_cons, hp, ho]
      simpa using ih
theorem get_set_self {nm u : ByteArray} : ∀ {L : List F}, getL nm (setL nm u L) = [u]
  | [] => by
    show getL nm [(nm, u)] = [u]
    unfold getL; rw [List.filter_cons, nmd_self]; rfl
  | p :: L => by
    rw [setL]
    cases hp : nmd nm p
    · have ih := get_set_self (nm := nm) (u := u) (L := L)
      unfold getL at *
      simp only [Bool.false_eq_true, if_false, List.filter_cons, hp]
      exact ih
    · have hq : nmd nm (p.1, u) = true := hp
      have hr : getL nm (remL nm L) = [] := by
        unfold getL
        rw [List.filter_eq_nil_iff.mpr (fun q hq => by have := none_not (rem_none (nm := nm) (L := L)) q hq; rw [this]; simp)]; rfl
      unfold getL at *
      simp only [if_true, List.filter_cons, hq, List.map_cons]
      rw [hr]
theorem get_set_other {nm u ot : ByteArray} (h : foldL nm.data.toList ot.data.toList = false) : ∀ {L : List F}, getL ot (setL nm u L) = getL ot L
  | [] => by
    show getL ot [(nm, u)] = []
    have ho := nmd_other h (nmd_self nm u)
    unfold getL; rw [List.filter_cons, ho]; rfl
  | p :: L => by
    rw [setL]
    cases hp : nmd nm p
    · have ih := get_set_other h (u := u) (L := L)
      unfold getL at *
      simp only [Bool.false_eq_true, if_false, List.filter_cons]
      cases ho : nmd ot p
      · simpa [ho] using ih
      · simpa [ho] using ih
    · have hq : nmd nm (p.1, u) = true := hp
      have h1 := nmd_other h hq
      have h2 := nmd_other h hp
      have ih := get_rem h (L := L)
      unfold getL at *
      simp only [if_true, List.filter_cons, h1, h2]
      simpa using ih
theorem set_len {nm u : ByteArray} : ∀ {L : List F}, (setL nm u L).length ≤ L.length + 1
  | [] => Nat.le_refl _
  | p :: L => by
    rw [setL]
    have h1 := List.length_filter_le (fun q => !nmd nm q) L
    have h2 := set_len (nm := nm) (u := u) (L := L)
    split
    · simp only [List.length_cons]; unfold remL; omega
    · simp only [List.length_cons]; omega
theorem set_mem {nm u : ByteArray} : ∀ {L : List F} {p : F}, p ∈ setL nm u L → p = (nm, u) ∨ p ∈ L ∨ ∃ q ∈ L, p = (q.1, u)
  | [], p, h => by
    have : p ∈ [(nm, u)] := h
    simp at this; exact .inl this
  | q :: L, p, h => by
    rw [setL] at h
    split at h
    · rcases List.mem_cons.mp h with e | h
      · exact .inr (.inr ⟨q, by simp, e⟩)
      · exact .inr (.inl (List.mem_cons_of_mem _ (List.mem_filter.mp h).1))
    · rcases List.mem_cons.mp h with e | h
      · exact .inr (.inl (by rw [e]; simp))
      · rcases set_mem h with e | e | ⟨r, hr, e⟩
        · exact .inl e
        · exact .inr (.inl (List.mem_cons_of_mem _ e))
        · exact .inr (.inr ⟨r, List.mem_cons_of_mem _ hr, e⟩)

end Go.Proofs.Ytmhedadollmekaa.Asc
