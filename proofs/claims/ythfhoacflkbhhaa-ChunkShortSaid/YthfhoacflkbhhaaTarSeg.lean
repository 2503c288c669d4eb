/- Plain functions: the segments of a path. No program is named here. -/
import Derived.Test.YthfhoacflkbhhaaTarSpec
set_option linter.unusedVariables false
set_option linter.unusedSimpArgs false
namespace Go.Proofs.Ythfhoacflkbhhaa.Asc

/-- the pieces between the slashes; what is joined again -/
def piecesL (l : List UInt8) : List (List UInt8) := match l with
  | [] => [[]]
  | c :: r => if c = 47 then [] :: piecesL r else match piecesL r with
    | [] => [[c]]
    | p :: ps => (c :: p) :: ps
def joinL (ps : List (List UInt8)) : List UInt8 := ps.flatMap (47 :: ·)
theorem pieces_slash (r : List UInt8) : piecesL (47 :: r) = [] :: piecesL r := by
  conv => lhs; unfold piecesL
  rw [if_pos rfl]
theorem pieces_ne : ∀ l : List UInt8, piecesL l ≠ []
  | [] => by simp [piecesL]
  | c :: r => by
    unfold piecesL
    split
    · simp
    · split <;> simp
theorem pieces_other {c : UInt8} {r : List UInt8} (h : c ≠ 47) : ∃ p ps, piecesL r = p :: ps ∧ piecesL (c :: r) = (c :: p) :: ps := by
  rcases q : piecesL r with _ | ⟨p, ps⟩
  · exact absurd q (pieces_ne r)
  · refine ⟨p, ps, rfl, ?_⟩
    conv => lhs; unfold piecesL
    rw [if_neg h, q]
theorem join_pieces : ∀ l : List UInt8, joinL (piecesL l) = 47 :: l
  | [] => by simp [piecesL, joinL]
  | c :: r => by
    by_cases h : c = 47
    · subst h
      rw [pieces_slash]
      have := join_pieces r
      simp only [joinL, List.flatMap_cons] at this ⊢
      rw [this]; rfl
    · obtain ⟨p, ps, h1, h2⟩ := pieces_other (r := r) h
      have := join_pieces r
      rw [h1] at this
      rw [h2]
      simp only [joinL, List.flatMap_cons] at this ⊢
      simp at this ⊢
      exact this
theorem pieces_not : ∀ (l : List UInt8), ∀ p ∈ piecesL l, (47 : UInt8) ∉ p
  | [], p, h => by simp [piecesL] at h; rw [h]; simp
  | c :: r, p, h => by
    by_cases hc : c = 47
    · subst hc
      rw [pieces_slash] at h
      rcases List.mem_cons.mp h with e | e
      · rw [e]; simp
      · exact pieces_not r p e
    · obtain ⟨q, ps, h1, h2⟩ := pieces_other (r := r) hc
      have ih := pieces_not r
      rw [h1] at ih
      rw [h2] at h
      rcases List.mem_cons.mp h with e | e
      · rw [e]
        intro hm
        rcases List.mem_cons.mp hm with k | k
        · exact hc k.symm
        · exact ih q (by simp) k
      · exact ih p (by simp [e])
/-- cutting at a slash -/
theorem pieces_app {a b : List UInt8} (h : (47 : UInt8) ∉ a) : piecesL (a ++ 47 :: b) = a :: piecesL b := by
  induction a with
  | nil => exact pieces_slash b
  | cons c a ih =>
    have hc : c ≠ 47 := fun e => h (by rw [e]; simp)
    obtain ⟨p, ps, h1, h2⟩ := pieces_other (c := c) (r := a ++ 47 :: b) hc
    show piecesL (c :: (a ++ 47 :: b)) = _
    rw [ih (fun q => h (by simp [q]))] at h1
    rw [h2]
    cases h1; rfl
theorem pieces_one {a : List UInt8} (h : (47 : UInt8) ∉ a) : piecesL a = [a] := by
  induction a with
  | nil => rfl
  | cons c a ih =>
    have hc : c ≠ 47 := fun e => h (by rw [e]; simp)
    obtain ⟨p, ps, h1, h2⟩ := pieces_other (c := c) (r := a) hc
    rw [ih (fun q => h (by simp [q]))] at h1
    rw [h2]
    cases h1; rfl
theorem pieces_join : ∀ {ps : List (List UInt8)}, ps ≠ [] → (∀ p ∈ ps, (47 : UInt8) ∉ p) → piecesL ((joinL ps).drop 1) = ps
  | [], h, _ => absurd rfl h
  | [p], _, hp => by
    show piecesL (p ++ []) = [p]
    rw [List.append_nil]; exact pieces_one (hp p (by simp))
  | p :: q :: ps, _, hp => by
    have ih := pieces_join (ps := q :: ps) (by simp) (fun x hx => hp x (by simp at hx ⊢; exact .inr hx))
    have e : (joinL (p :: q :: ps)).drop 1 = p ++ 47 :: (joinL (q :: ps)).drop 1 := by simp [joinL]
    rw [e, pieces_app (hp p (by simp)), ih]

def dot1 : List UInt8 := [46]
def dot2 : List UInt8 := [46, 46]
/-- the pieces that are left: out are those that have been left so far -/
def dotsL (out : List (List UInt8)) : List (List UInt8) → List (List UInt8)
  | [] => out
  | x :: r =>
    if x = dot2 then (if r = [] then out.dropLast ++ [[]] else dotsL out.dropLast r)
    else if x = dot1 then (if r = [] then out ++ [[]] else dotsL out r)
    else dotsL (out ++ [x]) r
def noDot (x : List UInt8) : Prop := x ≠ dot1 ∧ x ≠ dot2
theorem dots_plain : ∀ {ps out : List (List UInt8)}, (∀ p ∈ ps, noDot p) → dotsL out ps = out ++ ps
  | [], out, _ => by simp [dotsL]
  | x :: r, out, h => by
    have hx := h x (by simp)
    unfold dotsL
    rw [if_neg hx.2, if_neg hx.1, dots_plain (fun p hp => h p (by simp [hp]))]; simp
theorem nil_noDot : noDot [] := ⟨by simp [dot1], by simp [dot2]⟩
/-- what is left holds no dots, is not empty, and holds nothing new -/
theorem dots_all {P : List UInt8 → Prop} (hnil : P []) : ∀ {ps out : List (List UInt8)}, (∀ p ∈ ps, noDot p → P p) → (∀ p ∈ out, P p) → ∀ p ∈ dotsL out ps, P p
  | [], out, _, h2, p, hp => h2 p hp
  | x :: r, out, h1, h2, p, hp => by
    have hr : ∀ p ∈ r, noDot p → P p := fun q hq => h1 q (by simp [hq])
    have hdl : ∀ p ∈ out.dropLast, P p := fun q hq => h2 q (List.dropLast_subset _ hq)
    unfold dotsL at hp
    split at hp
    · split at hp
      · rcases List.mem_append.mp hp with e | e
        · exact hdl p e
        · simp at e; rw [e]; exact hnil
      · exact dots_all hnil hr hdl p hp
    · split at hp
      · split at hp
        · rcases List.mem_append.mp hp with e | e
          · exact h2 p e
          · simp at e; rw [e]; exact hnil
        · exact dots_all hnil hr h2 p hp
      · rename_i hx2 hx1
        refine dots_all hnil hr (fun q hq => ?_) p hp
        rcases List.mem_append.mp hq with e | e
        · exact h2 q e
        · simp at e; rw [e]; exact h1 x (by simp) ⟨hx1, hx2⟩
theorem dots_ne : ∀ {ps out : List (List UInt8)}, ps ≠ [] → dotsL out ps ≠ []
  | [], _, h => absurd rfl h
  | x :: r, out, _ => by
    unfold dotsL
    split
    · split
      · simp
      · rename_i h; exact dots_ne h
    · split
      · split
        · simp
        · rename_i h; exact dots_ne h
      · by_cases hr : r = []
        · subst hr; simp [dotsL]
        · exact dots_ne hr

def segL : List UInt8 → List UInt8
  | [] => []
  | c :: r => if c = 47 then joinL (dotsL [] (piecesL r)) else c :: r
theorem seg_slash (r : List UInt8) : segL (47 :: r) = joinL (dotsL [] (piecesL r)) := by
  show (if (47 : UInt8) = 47 then joinL (dotsL [] (piecesL r)) else 47 :: r) = _
  rw [if_pos rfl]
theorem seg_other {l : List UInt8} (h : l.head? ≠ some 47) : segL l = l := by
  match l, h with
  | [], _ => rfl
  | c :: r, h =>
    show (if c = 47 then joinL (dotsL [] (piecesL r)) else c :: r) = _
    rw [if_neg (by simpa using h)]
/-- the pieces of what segL leaves -/
theorem seg_pieces (r : List UInt8) : ∃ ps, segL (47 :: r) = joinL ps ∧ ps ≠ [] ∧ (∀ p ∈ ps, (47 : UInt8) ∉ p ∧ noDot p) ∧ (∀ p ∈ ps, p = [] ∨ p ∈ piecesL r) := by
  refine ⟨_, seg_slash r, dots_ne (pieces_ne r), ?_, ?_⟩
  · exact dots_all (P := fun p => (47 : UInt8) ∉ p ∧ noDot p) ⟨by simp, nil_noDot⟩ (fun p hp hd => ⟨pieces_not r p hp, hd⟩) (by simp)
  · exact dots_all (P := fun p => p = [] ∨ p ∈ piecesL r) (.inl rfl) (fun p hp hd => .inr hp) (by simp)
theorem join_cons {ps : List (List UInt8)} (h : ps ≠ []) : ∃ r, joinL ps = 47 :: r := by
  match ps, h with
  | p :: ps, _ => exact ⟨_, rfl⟩
theorem seg_join {ps : List (List UInt8)} (h : ps ≠ []) (hp : ∀ p ∈ ps, (47 : UInt8) ∉ p ∧ noDot p) : segL (joinL ps) = joinL ps := by
  obtain ⟨r, hr⟩ := join_cons h
  have h1 := pieces_join h (fun p q => (hp p q).1)
  rw [hr] at h1 ⊢
  simp at h1
  rw [seg_slash, h1, dots_plain (fun p q => (hp p q).2), List.nil_append, hr]
theorem seg_seg (l : List UInt8) : segL (segL l) = segL l := by
  by_cases h : l.head? = some 47
  · match l, h with
    | c :: r, h =>
      simp at h; subst h
      obtain ⟨ps, e, h1, h2, _⟩ := seg_pieces r
      rw [e]; exact seg_join h1 h2
  · rw [seg_other h, seg_other h]
/-- a path that is normalized stays so -/
theorem norm_join : ∀ {ps : List (List UInt8)}, (∀ p ∈ ps, normL p = some p) → normL (joinL ps) = some (joinL ps)
  | [], _ => rfl
  | p :: ps, h => by
    have ih := norm_join (ps := ps) (fun q hq => h q (by simp [hq]))
    show normL ([] ++ 47 :: (p ++ joinL ps)) = some (47 :: (p ++ joinL ps))
    rw [norm_split (by decide) (by decide) (by decide) 0 [] _ (Nat.le_refl _)]
    have e : normL (p ++ joinL ps) = some (p ++ joinL ps) := by
      match ps, ih with
      | [], _ => rw [show joinL ([] : List (List UInt8)) = [] from rfl, List.append_nil]; exact h p (by simp)
      | q :: ps, ih =>
        have ih2 : normL ([] ++ 47 :: (q ++ joinL ps)) = some (47 :: (q ++ joinL ps)) := ih
        rw [norm_split (by decide) (by decide) (by decide) 0 [] _ (Nat.le_refl _)] at ih2
        have e2 : normL (q ++ joinL ps) = some (q ++ joinL ps) := by
          cases hq : normL (q ++ joinL ps) with
          | none => rw [hq] at ih2; simp [normL] at ih2
          | some y => rw [hq] at ih2; simp [normL] at ih2; rw [ih2]
        show normL (p ++ 47 :: (q ++ joinL ps)) = some (p ++ 47 :: (q ++ joinL ps))
        rw [norm_split (by decide) (by decide) (by decide) _ p _ (Nat.le_refl _), h p (by simp), e2]; rfl
    rw [e]; rfl
theorem norm_pieces : ∀ {l : List UInt8}, normL l = some l → ∀ p ∈ piecesL l, normL p = some p := fun {l} h => by
  have key : ∀ (n : Nat) (l : List UInt8), l.length ≤ n → normL l = some l → ∀ p ∈ piecesL l, normL p = some p := by
    intro n
    induction n with
    | zero =>
      intro l hl h p hp
      have : l = [] := by cases l <;> simp at hl ⊢
      subst this; simp [piecesL] at hp; rw [hp]; rfl
    | succ n ih =>
      intro l hl h p hp
      by_cases hc : (47 : UInt8) ∈ l
      · have hb : cutB 47 l = true := by simpa [cutB] using hc
        have hj := cut_join hb
        have hlen := congrArg List.length hj
        simp at hlen
        rw [hj, norm_split (by decide) (by decide) (by decide) _ _ _ (Nat.le_refl _)] at h
        cases ha : normL (cut1 47 l) with
        | none => rw [ha] at h; simp at h
        | some x =>
          cases hr : normL (cut2 47 l) with
          | none => rw [ha, hr] at h; simp at h
          | some y =>
            rw [ha, hr] at h
            simp at h
            have hx47 : (47 : UInt8) ∉ x := norm_not (by decide) (by decide) (by decide) _ _ _ (Nat.le_refl _) (cut1_not 47 l) ha
            have e1 := cut_app (c := 47) (a := x) (b := y) hx47
            have e2 := cut_app (c := 47) (a := cut1 47 l) (b := cut2 47 l) (cut1_not 47 l)
            rw [h] at e1
            have ex : cut1 47 l = x := e2.1.symm.trans e1.1
            have ey : cut2 47 l = y := e2.2.1.symm.trans e1.2.1
            rw [hj, pieces_app (cut1_not 47 l)] at hp
            rcases List.mem_cons.mp hp with e | e
            · rw [e, ha, ex]
            · exact ih (cut2 47 l) (by omega) (by rw [hr, ey]) p e
      · rw [pieces_one hc] at hp
        simp at hp; rw [hp]; exact h
  exact key l.length l (Nat.le_refl _) h
theorem norm_seg {l : List UInt8} (h : normL l = some l) : normL (segL l) = some (segL l) := by
  by_cases hs : l.head? = some 47
  · match l, hs, h with
    | c :: r, hs, h =>
      simp at hs; subst hs
      obtain ⟨ps, e, _, _, h3⟩ := seg_pieces r
      have hr : normL r = some r := by
        have h2 : normL ([] ++ 47 :: r) = some (47 :: r) := h
        rw [norm_split (by decide) (by decide) (by decide) 0 [] _ (Nat.le_refl _)] at h2
        cases hq : normL r with
        | none => rw [hq] at h2; simp [normL] at h2
        | some y => rw [hq] at h2; simp [normL] at h2; rw [h2]
      rw [e]
      refine norm_join (fun p hp => ?_)
      rcases h3 p hp with q | q
      · rw [q]; rfl
      · exact norm_pieces hr p q
  · rw [seg_other hs]; exact h

end Go.Proofs.Ythfhoacflkbhhaa.Asc
