/- Merged texts: ClsSpec3 ClsSpec5 ClsSpec6 ClsSpec7 ClsSpec4 ClsSpec8 ClsSpec9 AccRef4 RnkRef SelRef AccKN MedSet. -/
import Derived.Test.YtklfpkaemnhdhaaGreatDoorZb02
import Derived.Test.YtklfpkaemnhdhaaGreatDoorZb04
import Derived.Test.YtklfpkaemnhdhaaGreatDoorZb06
import Derived.Test.YtklfpkaemnhdhaaGreatDoorZb07
import Derived.Test.YtklfpkaemnhdhaaGreatDoorZb08
import Derived.Test.YtklfpkaemnhdhaaGreatDoorZb09
import Derived.Test.YtklfpkaemnhdhaaGreatDoorZb10
import Derived.DeepKeys4
import Derived.Maps.OwnSet
set_option linter.unusedVariables false
set_option linter.unusedSimpArgs false
set_option maxRecDepth 100000
namespace Go.Proofs.YtklfpkaemnhdhaaGreatDoor.Asc
section
theorem get_app18 {nm : ByteArray} {L M : List F} : getL nm (L ++ M) = getL nm L ++ getL nm M := by unfold getL; rw [List.filter_append, List.map_append]
theorem get_one18 {nm : ByteArray} {f : F} : getL nm [f] = if nmd nm f = true then [f.2] else [] := by
  unfold getL
  rw [List.filter_cons, List.filter_nil]
  split <;> rfl
/-- names that fold alike -/
theorem nmd_fold {n m : ByteArray} (h : foldL n.data.toList m.data.toList = true) (f : F) : nmd n f = nmd m f := by
  unfold nmd
  cases e : foldL f.1.data.toList m.data.toList with
  | true => exact fold_trans e (by rw [fold_symm]; exact h)
  | false =>
    cases e2 : foldL f.1.data.toList n.data.toList with
    | false => rfl
    | true => rw [fold_trans e2 h] at e; cases e
theorem get_rem18 {n m : ByteArray} {L : List F} (h : foldL n.data.toList m.data.toList = true) : getL n (remL m L) = [] := by
  unfold getL remL
  rw [List.filter_filter]
  have : (L.filter fun p => nmd n p && !nmd m p) = [] := by
    rw [List.filter_eq_nil_iff]
    intro p _
    rw [nmd_fold h p]
    simp
  rw [this]; rfl
theorem any_get18 {nm : ByteArray} {L : List F} : L.any (nmd nm) = !(getL nm L).isEmpty := by
  unfold getL
  induction L with
  | nil => rfl
  | cons p L ih =>
    rw [List.any_cons, List.filter_cons, ih]
    cases nmd nm p with
    | true => rfl
    | false => rfl
/-- two lists of fields that say the same under a name -/
theorem acc_get {x : AX} {L M : List F} (h1 : kindN x.1 = 0 → allL x.1 L = allL x.1 M) (h2 : kindN x.1 ≠ 0 → allL (nameK (kindN x.1)) L = allL (nameK (kindN x.1)) M ∧ L.any (nmd (nameK (kindN x.1))) = M.any (nmd (nameK (kindN x.1)))) : accS x L = accS x M := by
  refine acc_congr h1 (fun hk v _ => ?_)
  obtain ⟨a1, a2⟩ := h2 hk
  have ho : prefsO (kindN x.1) L = prefsO (kindN x.1) M := by unfold prefsO; rw [a2]
  have hp : prefsV (kindN x.1) L = prefsV (kindN x.1) M := by unfold prefsV prefsL; rw [ho, a1]
  unfold qlS
  rw [ho, hp]
theorem acc_gets {x : AX} {L M : List F} (h : ∀ nm : ByteArray, foldL x.1.data.toList nm.data.toList = true → allL nm L = allL nm M ∧ L.any (nmd nm) = M.any (nmd nm)) : accS x L = accS x M :=
  acc_get (fun _ => (h x.1 (fold_self _)).1) (fun hk => h _ (kind_fold hk))
theorem kindN_rng (n : ByteArray) : 0 ≤ kindN n ∧ kindN n ≤ 4 := by
  unfold kindN
  split
  · omega
  · split
    · omega
    · split
      · omega
      · split <;> omega
end
section
theorem text_range {a b : ByteArray} {v : List UInt8} {M P : List F} (hr : rangeL v = some (a, b, M)) (gP : ∀ p ∈ P, GoodP p) : rangeL (fmtPB (a ++ (⟨#[47]⟩ : ByteArray) ++ b) P).data.toList = some (a, b, P) := by
  obtain ⟨⟨t1, t2, t3, t4, t5⟩, _, _, _⟩ := range_facts hr
  have hrl : (fmtPB (a ++ (⟨#[47]⟩ : ByteArray) ++ b) P).data.toList = fmtPL (a.data.toList ++ 47 :: b.data.toList) P := by
    show fmtPL (a ++ (⟨#[47]⟩ : ByteArray) ++ b).data.toList P = _
    congr 1
    simp [ByteArray.data_append]
  rw [hrl]
  have h0 := par_back2 (media_piece t1 t2) (media_trim t1 t2) (by simp) gP
  unfold rangeL
  rw [h0]; simp only
  rw [type_back t1 t2 t3 t4 t5]
/-- preferences that say the same of every value -/
def likeQ (k : Int) (p p' : ByteArray × Int) : Prop := p.2 = p'.2 ∧ ∀ v : List UInt8, matchP k p.1.data.toList v = matchP k p'.1.data.toList v
theorem likeQ.refl (k : Int) (p : ByteArray × Int) : likeQ k p p := ⟨rfl, fun _ => rfl⟩
def LikeL (k : Int) : List (ByteArray × Int) → List (ByteArray × Int) → Prop
  | [], [] => True
  | p :: A, p' :: B => likeQ k p p' ∧ LikeL k A B
  | _, _ => False
theorem like_best {k : Int} {v : List UInt8} : ∀ {A B : List (ByteArray × Int)}, LikeL k A B → ∀ st, bestQ k v A st = bestQ k v B st
  | [], [], _, st => rfl
  | p :: A, p' :: B, h, st => by
    show bestQ k v A (stepQ14 k v st p) = bestQ k v B (stepQ14 k v st p')
    have : stepQ14 k v st p = stepQ14 k v st p' := by
      unfold stepQ14
      rw [h.1.2 v, h.1.1]
    rw [this]
    exact like_best h.2 _
  | [], _ :: _, h, _ => h.elim
  | _ :: _, [], h, _ => h.elim
end
section
theorem norm_qual {k qv : Int} {P : List (ByteArray × Int)} {v : List UInt8} (h0 : 0 ≤ matchP k v v) (hown : ∃ p ∈ P, matchP k p.1.data.toList v = matchP k v v) (hall : ∀ p ∈ P, matchP k v v ≤ matchP k p.1.data.toList v → p.2 = qv) : qualR k P true v = qv := by
  obtain ⟨o, ho, he⟩ := hown
  unfold qualR
  rw [if_pos rfl]
  rcases best_is (k := k) (v := v) P (-1, qual0 k v) with ⟨a1, a2⟩ | ⟨p, hp, a1, a2, a3⟩
  · have h1 := a1 o ho
    have h2 : matchP k o.1.data.toList v ≤ -1 := h1
    omega
  · rw [a2]
    exact hall p hp (by have := a3 o ho; omega)
theorem best_alike {k : Int} {v w : List UInt8} (h : ∀ r : List UInt8, matchP k r v = matchP k r w) : ∀ (A : List (ByteArray × Int)) (st : Int × Int), bestQ k v A st = bestQ k w A st
  | [], _ => rfl
  | p :: A, st => by
    show bestQ k v A (stepQ14 k v st p) = bestQ k w A (stepQ14 k w st p)
    have : stepQ14 k v st p = stepQ14 k w st p := by unfold stepQ14; rw [h]
    rw [this]
    exact best_alike h A _
theorem qual_alike {k : Int} {v w : List UInt8} {A : List (ByteArray × Int)} {o : Bool} (h : ∀ r : List UInt8, matchP k r v = matchP k r w) (h0 : qual0 k v = qual0 k w) : qualR k A o v = qualR k A o w := by
  unfold qualR
  cases o with
  | false => rfl
  | true => rw [if_pos rfl, if_pos rfl, h0, best_alike h]
theorem nodup_len : ∀ (A B : List ByteArray), A.Nodup → (∀ a ∈ A, a ∈ B) → A.length ≤ B.length
  | [], _, _, _ => Nat.zero_le _
  | a :: A, B, hn, hs => by
    rw [List.nodup_cons] at hn
    have ih := nodup_len A (B.filter fun b => decide (b ≠ a)) hn.2 (fun x hx => List.mem_filter.2 ⟨hs x (by simp [hx]), decide_eq_true (fun e => hn.1 (e ▸ hx))⟩)
    have hlt : (B.filter fun b => decide (b ≠ a)).length < B.length := by
      have hle := List.length_filter_le (fun b => decide (b ≠ a)) B
      rcases Nat.lt_or_ge (B.filter fun b => decide (b ≠ a)).length B.length with h | h
      · exact h
      · have heq : (B.filter fun b => decide (b ≠ a)).length = B.length := by omega
        have := List.length_filter_eq_length_iff.1 heq a (hs a (by simp))
        exact absurd rfl (of_decide_eq_true this)
    rw [List.length_cons]; omega
theorem nodup_sub {A B : List ByteArray} (hA : A.Nodup) (hs : ∀ a ∈ A, a ∈ B) (hl : B.length ≤ A.length) : ∀ b ∈ B, b ∈ A := by
  intro b hb
  rcases Classical.em (b ∈ A) with h | h
  · exact h
  · have := nodup_len (b :: A) B (List.nodup_cons.2 ⟨h, hA⟩) (fun x hx => by
      rcases List.mem_cons.1 hx with rfl | hx
      · exact hb
      · exact hs x hx)
    rw [List.length_cons] at this
    omega
theorem own_nodup {L : List F} (h : ownP L L.length = true) : (L.map (·.1)).Nodup := by
  unfold ownP at h
  refine List.pairwise_iff_getElem.2 (fun i j hi hj hij => ?_)
  rw [List.length_map] at hi hj
  have h1 := List.all_eq_true.1 h j (List.mem_range.2 hj)
  rw [Bool.and_eq_true] at h1
  have h2 := h1.1
  unfold newP at h2
  have h3 := of_decide_eq_true (List.all_eq_true.1 h2 i (List.mem_range.2 hij))
  rw [List.getElem_map, List.getElem_map]
  have e1 : atP L j = L[j].1 := by unfold atP; simp [hj]
  have e2 : atP L i = L[i].1 := by unfold atP; simp [hi]
  rw [e1, e2] at h3
  exact fun e => h3 e.symm
theorem prmOk_iff {p t : F} : prmOk p t = true ↔ p.1 = t.1 ∧ foldL p.2.data.toList t.2.data.toList = true := by
  unfold prmOk
  rw [Bool.and_eq_true]
  constructor
  · intro h; exact ⟨str_eq h.1, h.2⟩
  · intro h; exact ⟨by rw [h.1]; exact beq_self_eq_true _, h.2⟩
theorem prmIn_iff {p : F} {T : List F} : prmIn p T = true ↔ ∃ t ∈ T, p.1 = t.1 ∧ foldL p.2.data.toList t.2.data.toList = true := by
  unfold prmIn
  rw [List.any_eq_true]
  exact ⟨fun ⟨t, h1, h2⟩ => ⟨t, h1, prmOk_iff.1 h2⟩, fun ⟨t, h1, h2⟩ => ⟨t, h1, prmOk_iff.2 h2⟩⟩
/-- all of T's parameters are U's, and there are no fewer: each range matches both alike -/
theorem prms_alike {T U : List F} (hT : (T.map (·.1)).Nodup) (hU : (U.map (·.1)).Nodup) (hin : ∀ t ∈ T, prmIn t U = true) (hl : U.length ≤ T.length) (p : F) : prmIn p T = prmIn p U := by
  have hfw : ∀ t ∈ T, ∃ u ∈ U, t.1 = u.1 ∧ foldL t.2.data.toList u.2.data.toList = true := fun t ht => prmIn_iff.1 (hin t ht)
  have hsub : ∀ a ∈ T.map (·.1), a ∈ U.map (·.1) := fun a ha => by
    obtain ⟨t, ht, rfl⟩ := List.mem_map.1 ha
    obtain ⟨u, hu, e, _⟩ := hfw t ht
    exact List.mem_map.2 ⟨u, hu, e.symm⟩
  have hback := nodup_sub hT hsub (by rw [List.length_map, List.length_map]; exact hl)
  have huniq : ∀ u ∈ U, ∀ u' ∈ U, u.1 = u'.1 → u = u' := by
    intro u hu u' hu' e
    obtain ⟨i, hi, rfl⟩ := List.getElem_of_mem hu
    obtain ⟨j, hj, rfl⟩ := List.getElem_of_mem hu'
    rcases Nat.lt_trichotomy i j with h | h | h
    · have := List.pairwise_iff_getElem.1 hU i j (by rw [List.length_map]; exact hi) (by rw [List.length_map]; exact hj) h
      rw [List.getElem_map, List.getElem_map] at this
      exact absurd e this
    · subst h; rfl
    · have := List.pairwise_iff_getElem.1 hU j i (by rw [List.length_map]; exact hj) (by rw [List.length_map]; exact hi) h
      rw [List.getElem_map, List.getElem_map] at this
      exact absurd e.symm this
  have hbw : ∀ u ∈ U, ∃ t ∈ T, u.1 = t.1 ∧ foldL t.2.data.toList u.2.data.toList = true := fun u hu => by
    obtain ⟨t, ht, e⟩ := List.mem_map.1 (hback u.1 (List.mem_map.2 ⟨u, hu, rfl⟩))
    obtain ⟨u', hu', e1, e2⟩ := hfw t ht
    have : u' = u := huniq u' hu' u hu (by rw [← e1]; exact e)
    subst this
    exact ⟨t, ht, e.symm, e2⟩
  rw [Bool.eq_iff_iff, prmIn_iff, prmIn_iff]
  constructor
  · rintro ⟨t, ht, e1, e2⟩
    obtain ⟨u, hu, e3, e4⟩ := hfw t ht
    exact ⟨u, hu, e1.trans e3, fold_trans e2 e4⟩
  · rintro ⟨u, hu, e1, e2⟩
    obtain ⟨t, ht, e3, e4⟩ := hbw u hu
    exact ⟨t, ht, e1.trans e3, fold_trans e2 (by rw [fold_symm]; exact e4)⟩
theorem beq_str {a b : ByteArray} : (a.toList == b.toList) = decide (a = b) := by
  have := ne_toList a b
  cases h : (a.toList == b.toList) with
  | true => exact (decide_eq_true (str_eq h)).symm
  | false =>
    rw [h] at this
    exact (decide_eq_false (of_decide_eq_true this.symm)).symm
theorem is_star (a : ByteArray) : (a.toList == [42]) = decide (a = star) := by
  rw [toList_data]
  have : (a.data.toList = [42]) ↔ a = star := by
    constructor
    · intro h
      obtain ⟨⟨l⟩⟩ := a
      simp only at h
      subst h; rfl
    · rintro rfl; rfl
  cases h : (a.data.toList == [42]) with
  | true => exact (decide_eq_true (this.1 (eq_of_beq h))).symm
  | false => exact (decide_eq_false (fun e => by rw [this.2 e] at h; simp at h)).symm
theorem media_ne {v : List UInt8} {s : M} (h : mediaL v = some s) : s.1 ≠ star ∧ s.2.1 ≠ star := by
  unfold mediaL at h
  cases hr : rangeL v with
  | none => rw [hr] at h; cases h
  | some m =>
    obtain ⟨a, b, L⟩ := m
    rw [hr] at h
    simp only at h
    split at h
    · cases h
    · rename_i hn
      cases h
      exact ⟨fun e => hn (.inl e), fun e => hn (.inr e)⟩
theorem matchI_self {m : M} (h1 : m.1 ≠ star) (h2 : m.2.1 ≠ star) : matchI m m = 2 + (m.2.2.length : Int) := by
  unfold matchI
  have a1 : (m.1.toList == m.1.toList) = true := beq_self_eq_true _
  have a2 : (m.2.1.toList == m.2.1.toList) = true := beq_self_eq_true _
  have a3 : (m.2.2.all fun p => prmIn p m.2.2) = true := List.all_eq_true.2 (fun p hp => prmIn_iff.2 ⟨p, hp, rfl, fold_self _⟩)
  rw [is_star, is_star, decide_eq_false h1, decide_eq_false h2, a1, a2, a3]
  simp
/-- a media type that another matches at least as specifically as it matches itself -/
theorem media_alike {s t : M} (os : ownP s.2.2 s.2.2.length = true) (ot : ownP t.2.2 t.2.2.length = true) (hs : s.1 ≠ star ∧ s.2.1 ≠ star) (ht : t.1 ≠ star ∧ t.2.1 ≠ star) (h0 : matchI t t ≤ matchI s t) (r : M) : matchI r s = matchI r t := by
  rw [matchI_self ht.1 ht.2] at h0
  unfold matchI at h0
  rw [is_star, is_star, decide_eq_false hs.1, decide_eq_false hs.2, beq_str, beq_str] at h0
  simp only [Bool.and_self, Bool.false_eq_true, if_false] at h0
  split at h0
  · omega
  · rename_i e1
    split at h0
    · omega
    · rename_i e2
      split at h0
      · rename_i e3
        have f1 : s.1 = t.1 := by
          cases hd : decide (s.1 = t.1) with
          | true => exact of_decide_eq_true hd
          | false => exact absurd hd e1
        have f2 : s.2.1 = t.2.1 := by
          cases hd : decide (s.2.1 = t.2.1) with
          | true => exact of_decide_eq_true hd
          | false => exact absurd hd e2
        have hin := List.all_eq_true.1 e3
        have hp : ∀ p, prmIn p s.2.2 = prmIn p t.2.2 := fun p => prms_alike (own_nodup os) (own_nodup ot) hin (by omega) p
        unfold matchI
        rw [f1, f2, show (fun p => prmIn p s.2.2) = fun p => prmIn p t.2.2 from funext hp]
      · omega
theorem value_media {n x : ByteArray} (hk : kindN n = 1) (h : valueV n x = true) : ∃ m, mediaL x.data.toList = some m ∧ ownP m.2.2 m.2.2.length = true ∧ m.1 ≠ star ∧ m.2.1 ≠ star := by
  unfold valueV at h
  rw [if_pos hk, Bool.and_eq_true] at h
  cases hm : mediaL x.data.toList with
  | none => rw [hm] at h; cases h.1
  | some m =>
    rw [hm] at h
    obtain ⟨h1, h2⟩ := media_ne hm
    exact ⟨m, rfl, h.2, h1, h2⟩
theorem media_range {v : List UInt8} {m : M} (h : mediaL v = some m) : rangeL v = some m := by
  unfold mediaL at h
  cases hr : rangeL v with
  | none => rw [hr] at h; cases h
  | some y =>
    obtain ⟨a, b, L⟩ := y
    rw [hr] at h
    simp only at h
    split at h
    · cases h
    · exact h
theorem subs_self : ∀ A : List (List UInt8), prefS A A = true
  | [] => rfl
  | x :: A => by show (foldL x x && prefS A A) = true; rw [fold_self, subs_self A]; rfl
theorem pref_len : ∀ {A B : List (List UInt8)}, prefS A B = true → B.length ≤ A.length → ∀ C, prefS C A = prefS C B
  | [], [], _, _, C => rfl
  | [], _ :: _, _, h, _ => by simp at h
  | _ :: _, [], h, _, _ => by cases h
  | x :: A, y :: B, h, hl, C => by
    have h2 : (foldL x y && prefS A B) = true := h
    rw [Bool.and_eq_true] at h2
    cases C with
    | nil => rfl
    | cons c C =>
      show (foldL c x && prefS C A) = (foldL c y && prefS C B)
      rw [pref_len h2.2 (by simpa using hl) C]
      congr 1
      cases e : foldL c y with
      | true => exact fold_trans e (by rw [fold_symm]; exact h2.1)
      | false =>
        cases e2 : foldL c x with
        | false => rfl
        | true => rw [fold_trans e2 h2.1] at e; cases e
theorem value_self {n x : ByteArray} (hk : kindN n ≠ 0) (h : valueV n x = true) : 0 ≤ matchP (kindN n) x.data.toList x.data.toList := by
  rcases kind_some hk with k1 | k1 | k1 | k1
  · obtain ⟨m, hm, _, n1, n2⟩ := value_media k1 h
    rw [k1]
    unfold matchP
    rw [if_pos rfl, media_range hm, hm]
    simp only
    rw [matchI_self n1 n2]; omega
  · unfold valueV at h
    rw [if_neg (by omega), if_pos k1] at h
    rw [k1]
    unfold matchP matchT
    rw [if_neg (by decide), if_pos rfl, if_neg (by unfold rangeT; rw [h]; simp)]
    split
    · omega
    · rw [if_pos (subs_self _)]; omega
  · unfold valueV at h
    rw [if_neg (by omega), if_neg (by omega), if_pos (.inl k1), Bool.and_eq_true] at h
    have hs : x.data.toList ≠ [42] := fun e => (of_decide_eq_true h.2) (by
      obtain ⟨⟨l⟩⟩ := x
      simp only at e
      subst e; rfl)
    rw [k1]
    unfold matchP matchC
    rw [if_neg (by decide), if_neg (by decide), if_pos (.inl rfl), if_pos (by rw [h.1, decide_eq_true hs]; rfl), if_neg hs, if_pos rfl]
    omega
  · unfold valueV at h
    rw [if_neg (by omega), if_neg (by omega), if_pos (.inr k1), Bool.and_eq_true] at h
    have hs : x.data.toList ≠ [42] := fun e => (of_decide_eq_true h.2) (by
      obtain ⟨⟨l⟩⟩ := x
      simp only at e
      subst e; rfl)
    rw [k1]
    unfold matchP matchC
    rw [if_neg (by decide), if_neg (by decide), if_pos (.inr rfl), if_pos (by rw [h.1, decide_eq_true hs]; rfl), if_neg hs, if_pos rfl]
    omega
end
section
theorem value_tok {n x : ByteArray} (hk : kindN n = 3 ∨ kindN n = 4) (h : valueV n x = true) : tokL x.data.toList = true ∧ x.data.toList ≠ [42] := by
  unfold valueV at h
  rw [if_neg (by omega), if_neg (by omega), if_pos hk, Bool.and_eq_true] at h
  exact ⟨h.1, fun e => (of_decide_eq_true h.2) (by
    obtain ⟨⟨l⟩⟩ := x
    simp only at e
    subst e; rfl)⟩
theorem matchP_tok {k : Int} {r v : List UInt8} (hk : k = 3 ∨ k = 4) (hv : tokL v = true) (hs : v ≠ [42]) : matchP k r v = if tokL r = true then matchC k r v else -1 := by
  unfold matchP
  rw [if_neg (by omega), if_neg (by omega), if_pos hk, hv, decide_eq_true hs, Bool.and_true, Bool.and_true]
theorem can_iden {v : List UInt8} : foldL v idenL = decide (canL 4 v = idenL) := by
  unfold foldL
  have e : lowL idenL = idenL := by decide +kernel
  rw [e]
  apply decide_eq_decide.2
  unfold canL
  split
  · rename_i h
    constructor
    · intro h2; rw [h.2] at h2; exact absurd h2 (by decide)
    · intro h2; exact absurd h2 (by decide)
  · split
    · rename_i h
      constructor
      · intro h2; rw [h.2] at h2; exact absurd h2 (by decide)
      · intro h2; exact absurd h2 (by decide)
    · exact Iff.rfl
/-- a value that another matches at least as specifically as it matches itself -/
theorem value_alike {n x y : ByteArray} (hk : kindN n ≠ 0) (hx : valueV n x = true) (hy : valueV n y = true) (h : matchP (kindN n) y.data.toList y.data.toList ≤ matchP (kindN n) x.data.toList y.data.toList) :
    (∀ r : List UInt8, matchP (kindN n) r x.data.toList = matchP (kindN n) r y.data.toList) ∧ qual0 (kindN n) x.data.toList = qual0 (kindN n) y.data.toList := by
  rcases kind_some hk with k1 | k1 | k1 | k1
  · obtain ⟨s, hs, os, s1, s2⟩ := value_media k1 hx
    obtain ⟨t, ht, ot, t1, t2⟩ := value_media k1 hy
    rw [k1] at h ⊢
    have e : ∀ (r : List UInt8) (z : ByteArray) (m : M), mediaL z.data.toList = some m → matchP 1 r z.data.toList = match rangeL r with | some a => matchI a m | none => -1 := fun r z m hm => by
      unfold matchP
      rw [if_pos rfl, hm]
      cases rangeL r <;> rfl
    rw [e _ _ _ ht, e _ _ _ ht, media_range ht, media_range hs] at h
    have ha := media_alike os ot ⟨s1, s2⟩ ⟨t1, t2⟩ h
    refine ⟨fun r => ?_, rfl⟩
    rw [e _ _ _ hs, e _ _ _ ht]
    cases rangeL r with
    | none => rfl
    | some a => exact ha a
  · have vx : tagL x.data.toList = true := by unfold valueV at hx; rwa [if_neg (by omega), if_pos k1] at hx
    have vy : tagL y.data.toList = true := by unfold valueV at hy; rwa [if_neg (by omega), if_pos k1] at hy
    rw [k1] at h ⊢
    have e : ∀ (r : List UInt8) (z : ByteArray), tagL z.data.toList = true → matchP 2 r z.data.toList = if rangeT r = false then -1 else if r = [42] then 0 else if prefS (subL r) (subL z.data.toList) = true then ((subL r).length : Int) else -1 := fun r z hz => by
      unfold matchP matchT
      rw [if_neg (by decide), if_pos rfl, hz, Bool.and_true]
    have sy : y.data.toList ≠ [42] := fun q => by rw [q] at vy; exact absurd vy (by decide)
    have sx : x.data.toList ≠ [42] := fun q => by rw [q] at vx; exact absurd vx (by decide)
    have ry : rangeT y.data.toList = true := by unfold rangeT; rw [vy]; simp
    have rx : rangeT x.data.toList = true := by unfold rangeT; rw [vx]; simp
    rw [e _ _ vy, e _ _ vy, if_neg (by rw [ry]; simp), if_neg sy, if_pos (subs_self _), if_neg (by rw [rx]; simp), if_neg sx] at h
    split at h
    · rename_i hp
      have hl : (subL y.data.toList).length ≤ (subL x.data.toList).length := by omega
      refine ⟨fun r => ?_, rfl⟩
      rw [e _ _ vx, e _ _ vy, pref_len hp hl]
    · omega
  · obtain ⟨tx, sx⟩ := value_tok (.inl k1) hx
    obtain ⟨ty, sy⟩ := value_tok (.inl k1) hy
    rw [k1] at h ⊢
    rw [matchP_tok (.inl rfl) ty sy, matchP_tok (.inl rfl) ty sy, if_pos ty, if_pos tx] at h
    unfold matchC at h
    rw [if_neg sy, if_pos rfl, if_neg sx] at h
    split at h
    · rename_i hc
      refine ⟨fun r => ?_, rfl⟩
      rw [matchP_tok (.inl rfl) tx sx, matchP_tok (.inl rfl) ty sy]
      unfold matchC
      rw [hc]
    · omega
  · obtain ⟨tx, sx⟩ := value_tok (.inr k1) hx
    obtain ⟨ty, sy⟩ := value_tok (.inr k1) hy
    rw [k1] at h ⊢
    rw [matchP_tok (.inr rfl) ty sy, matchP_tok (.inr rfl) ty sy, if_pos ty, if_pos tx] at h
    unfold matchC at h
    rw [if_neg sy, if_pos rfl, if_neg sx] at h
    split at h
    · rename_i hc
      refine ⟨fun r => ?_, ?_⟩
      · rw [matchP_tok (.inr rfl) tx sx, matchP_tok (.inr rfl) ty sy]
        unfold matchC
        rw [hc]
      · unfold qual0
        rw [can_iden, can_iden, hc]
    · omega
theorem qual_value {n x y : ByteArray} {A : List (ByteArray × Int)} {o : Bool} (hk : kindN n ≠ 0) (hx : valueV n x = true) (hy : valueV n y = true) (h : matchP (kindN n) y.data.toList y.data.toList ≤ matchP (kindN n) x.data.toList y.data.toList) : qualR (kindN n) A o x.data.toList = qualR (kindN n) A o y.data.toList := by
  obtain ⟨h1, h2⟩ := value_alike hk hx hy h
  exact qual_alike h1 h2
theorem qual_like {k : Int} {v : List UInt8} {A B : List (ByteArray × Int)} (h : LikeL k A B) : qualR k A true v = qualR k B true v := by
  unfold qualR
  rw [if_pos rfl, if_pos rfl, like_best h]
/-- the qualities of values, as preferences again -/
theorem norm_values {n : ByteArray} {V : List ByteArray} {A P : List (ByteArray × Int)} {o : Bool} (hk : kindN n ≠ 0) (hV : ∀ v ∈ V, valueV n v = true) (hP : LikeL (kindN n) (V.map fun v => (v, qualR (kindN n) A o v.data.toList)) P) :
    ∀ v ∈ V, qualR (kindN n) P true v.data.toList = qualR (kindN n) A o v.data.toList := by
  intro v hv
  have hq : qualR (kindN n) P true v.data.toList = qualR (kindN n) (V.map fun v => (v, qualR (kindN n) A o v.data.toList)) true v.data.toList := by
    exact (qual_like hP).symm
  rw [hq]
  refine norm_qual (value_self hk (hV v hv)) ⟨(v, _), List.mem_map.2 ⟨v, hv, rfl⟩, rfl⟩ (fun p hp h => ?_)
  obtain ⟨x, hx, rfl⟩ := List.mem_map.1 hp
  exact qual_value hk (hV x hx) (hV v hv) h
end
section
def qTail (q : Int) : List UInt8 := 59 :: 113 :: 61 :: fmtQ q
theorem tok_plain18 {s : List UInt8} (h : tokL s = true) : ∀ c ∈ s, c ≠ 34 ∧ c ≠ 92 ∧ c ≠ 44 := by
  intro c hc
  have h2 : tokI c.toNat = true := by
    unfold tokL at h
    rw [Bool.and_eq_true] at h
    have := h.2
    unfold allI at this
    exact List.all_eq_true.1 this c hc
  have key : ∀ n : Fin 256, tokI n.1 = true → UInt8.ofNat n.1 ≠ 34 ∧ UInt8.ofNat n.1 ≠ 92 ∧ UInt8.ofNat n.1 ≠ 44 := by decide +kernel
  have := key ⟨c.toNat, c.toNat_lt⟩ h2
  simp only [UInt8.ofNat_toNat] at this
  exact this
theorem tail_plain18 {q : Int} (h0 : 0 ≤ q) (h1 : q ≤ 1000) : ∀ c ∈ qTail q, c ≠ 34 ∧ c ≠ 92 ∧ c ≠ 44 := by
  intro c hc
  unfold qTail at hc
  simp only [List.mem_cons] at hc
  rcases hc with rfl | rfl | rfl | hc
  · decide
  · decide
  · decide
  · exact tok_plain18 (fmtQ_tok h0 h1) c hc
end
section
theorem unesc_end : ∀ (n : Nat) (m u y : List UInt8), m.length ≤ n → unescL m = some u → endQ true (m ++ 34 :: y) = endQ false y
  | n, [], u, y, _, _ => endL_quo (by simp) rfl
  | 0, c :: r, u, y, hl, _ => by simp at hl
  | n + 1, c :: r, u, y, hl, h => by
    simp only [List.length_cons] at hl
    by_cases h34 : c = 34
    · subst h34; rw [unescL_q] at h; cases h
    · by_cases h92 : c = 92
      · subst h92
        match r, hl, h with
        | [], _, h => rw [unescL_e] at h; cases h
        | d :: r2, hl, h =>
          simp only [List.length_cons] at hl
          rw [unescL_b] at h
          obtain ⟨t, ht, _⟩ := Option.map_eq_some_iff.1 h
          show endQ true (92 :: d :: (r2 ++ 34 :: y)) = _
          rw [endL_esc]; exact unesc_end n r2 t y (by omega) ht
      · rw [unescL_o c r h34 h92] at h
        obtain ⟨t, ht, _⟩ := Option.map_eq_some_iff.1 h
        show endQ true (c :: (r ++ 34 :: y)) = _
        rw [endL_any (fun q => h92 q.2) h34]; exact unesc_end n r t y (by omega) ht
theorem unesc_nc (sep : UInt8) : ∀ (n : Nat) (m u y : List UInt8), m.length ≤ n → unescL m = some u → ncL sep true (m ++ 34 :: y) = ncL sep false y
  | n, [], u, y, _, _ => nc_quo (by simp) rfl
  | 0, c :: r, u, y, hl, _ => by simp at hl
  | n + 1, c :: r, u, y, hl, h => by
    simp only [List.length_cons] at hl
    by_cases h34 : c = 34
    · subst h34; rw [unescL_q] at h; cases h
    · by_cases h92 : c = 92
      · subst h92
        match r, hl, h with
        | [], _, h => rw [unescL_e] at h; cases h
        | d :: r2, hl, h =>
          simp only [List.length_cons] at hl
          rw [unescL_b] at h
          obtain ⟨t, ht, _⟩ := Option.map_eq_some_iff.1 h
          show ncL sep true (92 :: d :: (r2 ++ 34 :: y)) = _
          rw [nc_esc ⟨rfl, rfl⟩]; exact unesc_nc sep n r2 t y (by omega) ht
      · rw [unescL_o c r h34 h92] at h
        obtain ⟨t, ht, _⟩ := Option.map_eq_some_iff.1 h
        show ncL sep true (c :: (r ++ 34 :: y)) = _
        rw [nc_any (fun q => h92 q.2) h34 (by simp)]; exact unesc_nc sep n r t y (by omega) ht
/-- a text behind which a piece goes on as if it began there -/
def Goes (sep : UInt8) (a : List UInt8) : Prop := ∀ p, Piece sep p → Piece sep (a ++ p)
theorem Goes.nil (sep : UInt8) : Goes sep [] := fun p h => h
theorem Goes.app {sep : UInt8} {a b : List UInt8} (ha : Goes sep a) (hb : Goes sep b) : Goes sep (a ++ b) := fun p h => by
  rw [List.append_assoc]; exact ha _ (hb _ h)
theorem Goes.plain {sep : UInt8} {a : List UInt8} (h : ∀ c ∈ a, c ≠ 34 ∧ c ≠ sep) : Goes sep a := fun p hp => Piece.plain h hp
theorem Goes.piece {sep : UInt8} {a : List UInt8} (h : Goes sep a) : Piece sep a := by
  have := h [] (Piece.nil sep)
  rwa [List.append_nil] at this
theorem Goes.quoted {sep : UInt8} {l u : List UInt8} (h : unqL l = some u) : Goes sep l := fun p hp => by
  obtain ⟨m, rfl, _, hm⟩ := unq_parts h
  have e : (34 :: (m ++ [34])) ++ p = 34 :: (m ++ 34 :: p) := by simp
  rw [e]
  exact ⟨by rw [nc_quo (by simp) rfl]; exact (unesc_nc sep _ m u p (Nat.le_refl _) hm).trans hp.1, by rw [endL_quo (by simp) rfl]; exact (unesc_end _ m u p (Nat.le_refl _) hm).trans hp.2⟩
theorem Goes.tok {v : List UInt8} (h : tokL v = true) : Goes 44 v := Goes.plain fun c hc => ⟨(tok_not (tok_byte h c hc)).1, (tok_not (tok_byte h c hc)).2.2.2.1⟩
theorem Goes.blanks {a : List UInt8} (h : ∀ c ∈ a, blankB c = true) : Goes 44 a := Goes.plain fun c hc => ⟨(blank_chars (h c hc)).1, (blank_chars (h c hc)).2.2⟩
theorem Goes.param {x : List UInt8} {f : F} (h : paramL x = some f) : Goes 44 x := by
  unfold paramL at h
  split at h
  · cases h
  · rename_i hc
    have hb : cutB 61 x = true := by
      cases hh : cutB 61 x with
      | true => rfl
      | false => exact absurd (.inl hh) hc
    have ht : tokL (cut1 61 x) = true := by
      cases hh : tokL (cut1 61 x) with
      | true => rfl
      | false => exact absurd (.inr hh) hc
    rw [cut_join hb]
    have h61 : Goes 44 [(61 : UInt8)] := Goes.plain (by intro c hc; rw [List.mem_singleton.1 hc]; decide)
    have hv : Goes 44 (cut2 61 x) := by
      split at h
      · rename_i hv; exact Goes.tok hv
      · cases hu : unqL (cut2 61 x) with
        | none => rw [hu] at h; cases h
        | some u => exact Goes.quoted hu
    have := (Goes.tok ht).app (h61.app hv)
    simpa using this
theorem Goes.trim {x : List UInt8} (h : Goes 44 (trimL x)) : Goes 44 x := by
  obtain ⟨a, b, e, ha, hb, _⟩ := trim_split x
  rw [e]
  exact (Goes.blanks ha).app (h.app (Goes.blanks hb))
theorem goes_pieces : ∀ (ps : List (List UInt8)) (acc L : List F), parF ps acc = some L → Goes 44 (ps.flatMap fun y => 59 :: y)
  | [], acc, L, _ => Goes.nil 44
  | p :: ps, acc, L, h => by
    have h59 : Goes 44 [(59 : UInt8)] := Goes.plain (by intro c hc; rw [List.mem_singleton.1 hc]; decide)
    rw [List.flatMap_cons]
    unfold parF at h
    split at h
    · rename_i h0
      have hp : Goes 44 p := Goes.trim (by rw [h0]; exact Goes.nil 44)
      exact (h59.app hp).app (goes_pieces ps acc L h)
    · cases hq : paramL (trimL p) with
      | none => rw [hq] at h; cases h
      | some f =>
        rw [hq] at h
        have hp : Goes 44 p := Goes.trim (Goes.param hq)
        exact (h59.app hp).app (goes_pieces ps (acc ++ [f]) L h)
/-- the pieces, put together -/
theorem cut_back {sep : UInt8} : ∀ (f : Nat) (q : Bool) (l acc : List UInt8), l.length ≤ f → ∀ p ps, cutF sep f q l acc = p :: ps → p ++ ps.flatMap (fun y => sep :: y) = acc ++ l
  | f, q, [], acc, _, p, ps, h => by rw [cutF_nil] at h; cases h; simp
  | 0, q, c :: r, acc, hl, _, _, _ => by simp at hl
  | f + 1, q, c :: r, acc, hl, p, ps, h => by
    simp only [List.length_cons] at hl
    rw [cutF_cons] at h
    split at h
    · match r, hl, h with
      | [], _, h => cases h; simp
      | d :: r2, hl, h =>
        simp only [List.length_cons] at hl
        have := cut_back f q r2 (acc ++ [c, d]) (by omega) p ps h
        rw [this]; simp
    · split at h
      · have := cut_back f (!q) r (acc ++ [c]) (by omega) p ps h
        rw [this]; simp
      · split at h
        · rename_i hs
          injection h with h1 h2
          subst h1
          obtain ⟨p2, ps2, e2⟩ : ∃ p2 ps2, cutF sep f q r [] = p2 :: ps2 := by
            cases e : cutF sep f q r [] with
            | nil => exact absurd e (cutF_ne f q r [])
            | cons p2 ps2 => exact ⟨p2, ps2, rfl⟩
          have := cut_back f q r [] (by omega) p2 ps2 e2
          rw [← h2, e2, List.flatMap_cons, List.cons_append, this, hs.1]; rfl
        · have := cut_back f q r (acc ++ [c]) (by omega) p ps h
          rw [this]; simp
theorem par_goes {s v : List UInt8} {L : List F} (h : parL s = some (v, L)) (hv : Goes 44 v) : Goes 44 s := by
  unfold parL at h
  cases hc : cutL 59 s with
  | nil => rw [hc] at h; cases h
  | cons x ps =>
    rw [hc] at h
    simp only at h
    split at h
    · cases h
    · cases hp : parF ps [] with
      | none => rw [hp] at h; cases h
      | some K =>
        rw [hp] at h
        cases h
        have := cut_back s.length false s [] (Nat.le_refl _) x ps hc
        rw [List.nil_append] at this
        rw [← this]
        exact (Goes.trim hv).app (goes_pieces ps [] L hp)
theorem parF_snoc : ∀ (ps : List (List UInt8)) (acc L : List F) (x : List UInt8) (f : F), parF ps acc = some L → trimL x ≠ [] → paramL (trimL x) = some f → parF (ps ++ [x]) acc = some (L ++ [f])
  | [], acc, L, x, f, h, h0, hx => by
    unfold parF at h; cases h
    show parF [x] acc = _
    rw [parF_step h0 hx]; rfl
  | p :: ps, acc, L, x, f, h, h0, hx => by
    rw [List.cons_append]
    by_cases hp : trimL p = []
    · rw [parF_skip hp] at h ⊢; exact parF_snoc ps acc L x f h h0 hx
    · cases hq : paramL (trimL p) with
      | none => rw [parF_bad hp hq] at h; cases h
      | some g => rw [parF_step hp hq] at h ⊢; exact parF_snoc ps (acc ++ [g]) L x f h h0 hx
/-- a parameter more behind a value with parameters -/
theorem par_more {s v t : List UInt8} {L : List F} {f : F} (h : parL s = some (v, L)) (hs : Piece 44 s) (ht : Piece 59 t) (h0 : trimL t ≠ []) (hp : paramL (trimL t) = some f) : parL (s ++ 59 :: t) = some (v, L ++ [f]) := by
  have he : endF s.length false s = false := hs.2
  have hc : cutL 59 (s ++ 59 :: t) = cutL 59 s ++ [t] := by
    have e := cutF_app (sep := 59) ⟨by decide, by decide⟩ s.length false s t [] (Nat.le_refl _) he
    have h1 := cut_piece ht
    unfold cutL at h1 ⊢
    rw [h1] at e
    rw [List.length_append, List.length_cons, show s.length + (t.length + 1) = s.length + 1 + t.length from by omega, e]
  unfold parL at h ⊢
  rw [hc]
  cases hx : cutL 59 s with
  | nil => rw [hx] at h; cases h
  | cons x ps =>
    rw [hx] at h
    simp only at h
    simp only [List.cons_append]
    split at h
    · cases h
    · rename_i hne
      rw [if_neg hne]
      cases hk : parF ps [] with
      | none => rw [hk] at h; cases h
      | some K =>
        rw [hk] at h
        cases h
        rw [parF_snoc ps [] L t f hk h0 hp]
/-- what is read is told by the trimmed pieces -/
theorem parF_map : ∀ (ps qs : List (List UInt8)) (acc : List F), ps.map trimL = qs.map trimL → parF ps acc = parF qs acc
  | [], [], _, _ => rfl
  | p :: ps, q :: qs, acc, h => by
    rw [List.map_cons, List.map_cons] at h
    injection h with h1 h2
    unfold parF
    rw [h1]
    split
    · exact parF_map ps qs acc h2
    · cases paramL (trimL q) with
      | none => rfl
      | some f => exact parF_map ps qs (acc ++ [f]) h2
  | [], q :: qs, _, h => by simp at h
  | p :: ps, [], _, h => by simp at h
theorem par_map {s t : List UInt8} (h : (cutL 59 s).map trimL = (cutL 59 t).map trimL) : parL s = parL t := by
  unfold parL
  cases hs : cutL 59 s with
  | nil =>
    rw [hs] at h
    cases ht : cutL 59 t with
    | nil => rfl
    | cons y qs => rw [ht] at h; simp at h
  | cons x ps =>
    rw [hs] at h
    cases ht : cutL 59 t with
    | nil => rw [ht] at h; simp at h
    | cons y qs =>
      rw [ht, List.map_cons, List.map_cons] at h
      injection h with h1 h2
      simp only
      rw [h1, parF_map ps qs [] h2]
theorem blank_59 {c : UInt8} (h : blankB c = true) : c ≠ 59 := by
  have key : ∀ n : Fin 256, blankB (UInt8.ofNat n.1) = true → UInt8.ofNat n.1 ≠ 59 := by decide +kernel
  have := key ⟨c.toNat, c.toNat_lt⟩
  simp only [UInt8.ofNat_toNat] at this
  exact this h
theorem par_front {c : UInt8} (h : blankB c = true) (l : List UInt8) : parL (c :: l) = parL l := by
  obtain ⟨h34, h92, _⟩ := blank_chars h
  refine par_map ?_
  obtain ⟨p, ps, e1, e2⟩ := cut_head (sep := 59) [c] l.length false l [] (Nat.le_refl _)
  have e3 : cutL 59 (c :: l) = ([c] ++ p) :: ps := by
    unfold cutL
    show cutF 59 (l.length + 1) false (c :: l) [] = _
    rw [cutF_cons, if_neg (by simp), if_neg h34, if_neg (fun q => blank_59 h q.1)]
    exact e2
  have e4 : cutL 59 l = p :: ps := e1
  rw [e3, e4, List.map_cons, List.map_cons, List.singleton_append, trim_front h]
theorem par_last {c : UInt8} (h : blankB c = true) (l : List UInt8) : parL (l ++ [c]) = parL l := by
  obtain ⟨h34, h92, _⟩ := blank_chars h
  refine par_map ?_
  obtain ⟨ps, p, e1, e2⟩ := cut_last (sep := 59) h34 h92 (blank_59 h) l.length false l [] (Nat.le_refl _)
  have e3 : cutL 59 (l ++ [c]) = ps ++ [p ++ [c]] := by
    unfold cutL
    rw [show (l ++ [c]).length = l.length + 1 from by simp]; exact e2
  have e4 : cutL 59 l = ps ++ [p] := e1
  rw [e3, e4, List.map_append, List.map_append, List.map_cons, List.map_cons, trim_back h]
theorem par_fronts : ∀ (a l : List UInt8), (∀ c ∈ a, blankB c = true) → parL (a ++ l) = parL l
  | [], l, _ => rfl
  | c :: a, l, h => by rw [List.cons_append, par_front (h c (by simp)), par_fronts a l (fun d hd => h d (by simp [hd]))]
theorem par_lasts : ∀ (b l : List UInt8), (∀ c ∈ b, blankB c = true) → parL (l ++ b) = parL l
  | [], l, _ => by rw [List.append_nil]
  | c :: b, l, h => by
    rw [show l ++ c :: b = (l ++ [c]) ++ b from by simp, par_lasts b _ (fun d hd => h d (by simp [hd])), par_last (h c (by simp))]
theorem par_trim (l : List UInt8) : parL (trimL l) = parL l := by
  obtain ⟨a, b, e, ha, hb, _⟩ := trim_split l
  conv => rhs; rw [e]
  rw [par_fronts a _ ha, par_lasts b _ hb]
theorem type_goes {v : List UInt8} {a b : ByteArray} (h : typeL v = some (a, b)) : Goes 44 v ∧ Piece 59 v := by
  unfold typeL at h
  split at h
  · cases h
  · rename_i h0
    have hb : cutB 47 v = true := by
      cases hh : cutB 47 v with
      | true => rfl
      | false => exact absurd hh (by simpa using h0)
    split at h
    · cases h
    · rename_i h1
      split at h
      · cases h
      · rename_i h2
        have t1 : tokL (cut1 47 v) = true := by simpa using h1
        have t2 : tokL (cut2 47 v) = true := by simpa using h2
        rw [cut_join hb]
        have h47 : Goes 44 [(47 : UInt8)] := Goes.plain (by intro c hc; rw [List.mem_singleton.1 hc]; decide)
        refine ⟨?_, media_piece t1 t2⟩
        have := (Goes.tok t1).app (h47.app (Goes.tok t2))
        simpa using this
theorem own_noq {L : List F} (h : ownP L L.length = true) : ∀ p ∈ L, isQ p = false := by
  intro p hp
  obtain ⟨i, hi, rfl⟩ := List.getElem_of_mem hp
  unfold ownP at h
  have h1 := List.all_eq_true.1 h i (List.mem_range.2 hi)
  rw [Bool.and_eq_true] at h1
  have h2 := of_decide_eq_true h1.2
  rw [atP_is hi] at h2
  unfold isQ
  exact decide_eq_false h2
/-- the trimmed member is read as the value's text again -/
def NormM (k : Int) (m : List UInt8) (p : ByteArray × Int) : Prop := Piece 44 m ∧ trimL m ≠ [] ∧ ∃ r, memP k (trimL m) = some r ∧ likeQ k p r
theorem tail_piece {q : Int} (h0 : 0 ≤ q) (h1 : q ≤ 1000) : Piece 59 (113 :: 61 :: fmtQ q) ∧ trimL (113 :: 61 :: fmtQ q) = 113 :: 61 :: fmtQ q ∧ paramL (113 :: 61 :: fmtQ q) = some (qPar q) := by
  have ht := fmtQ_tok h0 h1
  have e : (113 :: 61 :: fmtQ q) = [113] ++ 61 :: valP (fmtQ q) := by rw [val_tok ht]; rfl
  have h113 : tokL [113] = true := by decide +kernel
  refine ⟨by rw [e]; exact piece_one h113, ?_, ?_⟩
  · have := trim_one (a := []) (b := []) (v := fmtQ q) h113 (by simp) (by simp)
    rw [e]
    simpa using this
  · rw [e, param_read h113 (tok_text ht)]
    show some (bs (lowL [113]), bs (fmtQ q)) = some (qPar q)
    rw [show lowL [113] = [113] from by decide +kernel]; rfl
theorem norm_media {n x : ByteArray} {q : Int} (hk : kindN n = 1) (hx : valueV n x = true) (h0 : 0 ≤ q) (h1 : q ≤ 1000) : NormM 1 (onePref (x, q)) (x, q) := by
  obtain ⟨m, hm, hown, n1, n2⟩ := value_media hk hx
  obtain ⟨a, b, L⟩ := m
  have hr := media_range hm
  obtain ⟨t, hp, hty⟩ : ∃ t, parL x.data.toList = some (t, L) ∧ typeL t = some (a, b) := by
    unfold rangeL at hr
    cases hp : parL x.data.toList with
    | none => rw [hp] at hr; cases hr
    | some y =>
      obtain ⟨t, K⟩ := y
      rw [hp] at hr
      simp only at hr
      cases hty : typeL t with
      | none => rw [hty] at hr; cases hr
      | some z =>
        obtain ⟨c, d⟩ := z
        rw [hty] at hr
        cases hr
        exact ⟨t, rfl, hty⟩
  obtain ⟨gt, pt⟩ := type_goes hty
  obtain ⟨gL, _, _, tt, tne⟩ := par_facts hp
  have gx := par_goes hp gt
  have noq : ∀ p ∈ L, isQ p = false := own_noq hown
  have hrt : rangeL t = some (a, b, []) := by
    have h2 := par_back2 (L := []) pt tt tne (fun p hp => by cases hp)
    have e0 : fmtPL t [] = t := by unfold fmtPL; simp
    rw [e0] at h2
    unfold rangeL
    rw [h2]; simp only
    rw [hty]
  obtain ⟨T, hT⟩ : ∃ T, onePref (x, q) = T := ⟨_, rfl⟩
  have hpT : parL T = some (t, withQ L q) ∧ Piece 44 T := by
    rw [← hT]
    unfold onePref withQ
    by_cases hq : q = 1000
    · simp only [if_pos hq, List.append_nil]
      exact ⟨hp, gx.piece⟩
    · simp only [if_neg hq]
      obtain ⟨u1, u2, u3⟩ := tail_piece h0 h1
      refine ⟨par_more hp gx.piece u1 (by rw [u2]; simp) (by rw [u2]; exact u3), gx _ ?_⟩
      have : Goes 44 (59 :: 113 :: 61 :: fmtQ q) := Goes.plain fun c hc => by
        have := tail_plain18 h0 h1 c hc
        exact ⟨this.1, this.2.2⟩
      exact this.piece
  rw [hT]
  have hmm : memP 1 (trimL T) = some (fmtPB (a ++ (⟨#[47]⟩ : ByteArray) ++ b) L, q) := by
    rw [mem_acc ((par_trim T).trans hpT.1) (with_qual noq h0 h1), hrt, with_at noq, with_take]
    rfl
  refine ⟨hpT.2, ?_, _, hmm, rfl, fun w => ?_⟩
  · intro e
    have hn : parL (trimL T) = some (t, withQ L q) := (par_trim T).trans hpT.1
    rw [e] at hn
    exact absurd hn (by simp [parL, cutL, cutF, trimL])
  · unfold matchP
    rw [if_pos rfl, if_pos rfl]
    show (match rangeL x.data.toList, mediaL w with | some a, some b => matchI a b | _, _ => -1) = _
    rw [hr, text_range hr gL]
    cases mediaL w <;> rfl
theorem norm_tok {k : Int} {x : ByteArray} {q : Int} (hk1 : k ≠ 1) (ht : tokL x.data.toList = true) (hr : k = 2 → rangeT x.data.toList = true) (h0 : 0 ≤ q) (h1 : q ≤ 1000) :
    Piece 44 (onePref (x, q)) ∧ trimL (onePref (x, q)) ≠ [] ∧ memP k (trimL (onePref (x, q))) = some (bs (canL k x.data.toList), q) := by
  have hone := one_with (r := x) (v := x.data.toList) (P := []) (q := q) (by unfold fmtPL; simp) h0 h1
  have gP := with_good (P := []) (q := q) (fun p hp => by cases hp) h0 h1
  have nP : ∀ p ∈ ([] : List F), isQ p = false := fun p hp => by cases hp
  have hpar := par_back2 (v := x.data.toList) (by have := Piece.tok ht (Piece.nil 59); rwa [List.append_nil] at this) (by have := trim_tok (v := x.data.toList) (a := []) (b := []) ht (by simp) (by simp); rwa [List.nil_append, List.append_nil] at this) (tok_ne ht) gP
  have hm := fmt_mem (v := x.data.toList) (fun q hq => pc_tok ht hq) (tok_ne ht) (fun r c r' h => first_ok ht c r' h) (last_tok ht) gP
  have hpc : Piece 44 (fmtPL x.data.toList (withQ [] q)) := pc_fmt _ (fun q hq => pc_tok ht hq) gP
  rw [hone]
  refine ⟨hpc, by rw [hm.2.1]; exact hm.1, ?_⟩
  rw [hm.2.1, mem_oth hk1 hpar (with_qual nP h0 h1), with_at nP]
  have hc : (if k = 2 then rangeT x.data.toList else tokL x.data.toList) = true := by
    by_cases h2 : k = 2
    · rw [if_pos h2]; exact hr h2
    · rw [if_neg h2]; exact ht
  rw [hc, if_pos (by simp)]
theorem match_low2 (r w : List UInt8) : matchT (lowL r) w = matchT r w := by
  rw [← match_low (lowL r) w, low_low, match_low]
theorem matchP_two (r v : List UInt8) : matchP 2 r v = matchT r v := by unfold matchP; rw [if_neg (by decide), if_pos rfl]
theorem matchP_more {k : Int} (hk : k = 3 ∨ k = 4) (r v : List UInt8) : matchP k r v = if (tokL r && tokL v && decide (v ≠ [42])) = true then matchC k r v else -1 := by unfold matchP; rw [if_neg (by omega), if_neg (by omega), if_pos hk]
theorem norm_one {n x : ByteArray} {q : Int} (hk : kindN n ≠ 0) (hx : valueV n x = true) (h0 : 0 ≤ q) (h1 : q ≤ 1000) : NormM (kindN n) (onePref (x, q)) (x, q) := by
  rcases kind_some hk with k1 | k1 | k1 | k1
  · rw [k1]; exact norm_media k1 hx h0 h1
  · have vx : tagL x.data.toList = true := by unfold valueV at hx; rwa [if_neg (by omega), if_pos k1] at hx
    have rx : rangeT x.data.toList = true := by unfold rangeT; rw [vx]; simp
    rw [k1]
    obtain ⟨a1, a2, a3⟩ := norm_tok (k := 2) (by decide) (range_tok rx) (fun _ => rx) h0 h1
    refine ⟨a1, a2, _, a3, rfl, fun w => ?_⟩
    rw [matchP_two, matchP_two, bs_toList, can_two, match_low2]
  · obtain ⟨tx, sx⟩ := value_tok (.inl k1) hx
    rw [k1]
    obtain ⟨a1, a2, a3⟩ := norm_tok (k := 3) (by decide) tx (fun h => absurd h (by decide)) h0 h1
    refine ⟨a1, a2, _, a3, rfl, fun w => ?_⟩
    rw [matchP_more (.inl rfl), matchP_more (.inl rfl), bs_toList, can_tok tx, tx]
    have hs : canL 3 x.data.toList ≠ [42] := fun e => by
      unfold canL at e
      rw [if_neg (by simp), if_neg (by simp)] at e
      exact sx ((low_star tx).1 e)
    rw [matchC_not hs, matchC_not sx, can_can]
  · obtain ⟨tx, sx⟩ := value_tok (.inr k1) hx
    rw [k1]
    obtain ⟨a1, a2, a3⟩ := norm_tok (k := 4) (by decide) tx (fun h => absurd h (by decide)) h0 h1
    refine ⟨a1, a2, _, a3, rfl, fun w => ?_⟩
    rw [matchP_more (.inr rfl), matchP_more (.inr rfl), bs_toList, can_tok tx, tx]
    have hs : canL 4 x.data.toList ≠ [42] := fun e => by
      unfold canL at e
      split at e
      · exact absurd e (by decide)
      · split at e
        · exact absurd e (by decide)
        · exact sx ((low_star tx).1 e)
    rw [matchC_not hs, matchC_not sx, can_can]
/-- members with blanks at their ends, joined and read again -/
theorem join_mem18 : ∀ (ms : List (List UInt8)), (∀ m ∈ ms, Piece 44 m ∧ trimL m ≠ []) → memL (cutL 44 (joinC ms)) = ms.map trimL
  | [], _ => by decide
  | [m], h => by
    obtain ⟨h1, h2⟩ := h m (by simp)
    show memL (cutL 44 m) = [trimL m]
    rw [cut_piece h1, memL_one h2]
  | m :: m2 :: ms, h => by
    obtain ⟨h1, h2⟩ := h m (by simp)
    have ih := join_mem18 (m2 :: ms) (fun x hx => h x (by simp [hx]))
    have e : joinC (m :: m2 :: ms) = m ++ 44 :: (32 :: joinC (m2 :: ms)) := by simp [joinC]
    rw [e, cut_pieces ⟨by decide, by decide⟩ _ h1, show m :: cutL 44 (32 :: joinC (m2 :: ms)) = [m] ++ cutL 44 (32 :: joinC (m2 :: ms)) from rfl, memL_append, cut_sp, ih, memL_one h2]
    rfl
theorem norm_like {k : Int} : ∀ (P : List (ByteArray × Int)), (∀ p ∈ P, NormM k (onePref p) p) → LikeL k P (((P.map onePref).map trimL).filterMap (memP k))
  | [], _ => trivial
  | p :: P, h => by
    obtain ⟨_, _, r, h1, h2⟩ := h p (by simp)
    rw [List.map_cons, List.map_cons, List.filterMap_cons, h1]
    exact ⟨h2, norm_like P (fun q hq => h q (by simp [hq]))⟩
end
section
/-- can a preference name the value? -/
def nameV (k : Int) (x : ByteArray) : Bool := if k = 1 then (mediaL x.data.toList).isSome else if k = 2 then tagL x.data.toList else tokL x.data.toList && decide (x ≠ star)
def normP (k : Int) (L : List F) (V : List ByteArray) : List QP := (V.filter (nameV k)).map fun v => (v, qualR k (prefsV k L) (prefsO k L) v.data.toList)
/-- 18.2 -/
def normF (k : Int) (L : List F) (V : List ByteArray) : List F := if prefsO k L = true then remL (nameK k) L ++ [(nameK k, fmtPf (normP k L V))] else L
theorem value_named {n x : ByteArray} (hk : kindN n ≠ 0) (h : valueV n x = true) : nameV (kindN n) x = true := by
  rcases kind_some hk with k1 | k1 | k1 | k1
  · obtain ⟨m, hm, _⟩ := value_media k1 h
    unfold nameV
    rw [if_pos k1, hm]; rfl
  · unfold valueV at h
    rw [if_neg (by omega), if_pos k1] at h
    unfold nameV
    rw [if_neg (by omega), if_pos k1]; exact h
  · unfold valueV at h
    rw [if_neg (by omega), if_neg (by omega), if_pos (.inl k1)] at h
    unfold nameV
    rw [if_neg (by omega), if_neg (by omega)]; exact h
  · unfold valueV at h
    rw [if_neg (by omega), if_neg (by omega), if_pos (.inr k1)] at h
    unfold nameV
    rw [if_neg (by omega), if_neg (by omega)]; exact h
theorem qualR_rng {k : Int} {A : List (ByteArray × Int)} {o : Bool} {v : List UInt8} (hA : ∀ p ∈ A, 0 ≤ p.2 ∧ p.2 ≤ 1000) : 0 ≤ qualR k A o v ∧ qualR k A o v ≤ 1000 := by
  unfold qualR
  split
  · rcases best_is (k := k) (v := v) A (-1, qual0 k v) with ⟨_, a2⟩ | ⟨p, hp, _, a2, _⟩
    · rw [a2]
      show 0 ≤ qual0 k v ∧ qual0 k v ≤ 1000
      unfold qual0
      split <;> omega
    · rw [a2]; exact hA p hp
  · omega
theorem get_rem_other {n m : ByteArray} (h : foldL n.data.toList m.data.toList = false) (L : List F) : getL n (remL m L) = getL n L := by
  unfold getL remL
  rw [List.filter_filter]
  congr 1
  refine List.filter_congr (fun p _ => ?_)
  cases e : nmd n p with
  | false => rfl
  | true =>
    cases e2 : nmd m p with
    | false => rfl
    | true =>
      have e3 : foldL p.1.data.toList n.data.toList = true := e
      have e4 : foldL p.1.data.toList m.data.toList = true := e2
      have := fold_trans (by rw [fold_symm]; exact e3) e4
      rw [h] at this; cases this
theorem acc_rem {x : AX} {L : List F} {m : ByteArray} (h : foldL x.1.data.toList m.data.toList = false) : accS x (remL m L) = accS x L :=
  acc_gets (fun nm hn => by
    have hnm : foldL nm.data.toList m.data.toList = false := by
      cases e : foldL nm.data.toList m.data.toList with
      | false => rfl
      | true => have := fold_trans hn e; rw [h] at this; cases this
    have hg := get_rem_other hnm L
    exact ⟨by unfold allL; rw [hg], by rw [any_get18, any_get18, hg]⟩)
theorem acc_snoc {x : AX} {L : List F} {f : F} (h : foldL x.1.data.toList f.1.data.toList = false) : accS x (L ++ [f]) = accS x L := by
  have h2 := acc_mid (L := L) (k := L.length) h
  unfold midF at h2
  rw [List.take_length, List.drop_length] at h2
  exact h2
theorem name_ne18 {k : Int} (h1 : 1 ≤ k) (h4 : k ≤ 4) : nameK k ≠ ⟨#[]⟩ := by
  have : k = 1 ∨ k = 2 ∨ k = 3 ∨ k = 4 := by omega
  rcases this with rfl | rfl | rfl | rfl <;> decide
/-- the members of the field that is written -/
theorem norm_split {k : Int} {P : List QP} (h : ∀ p ∈ P, NormM k (onePref p) p) (hl : P.length ≤ 64) : splitL (fmtPf P).data.toList = (P.map onePref).map trimL := by
  have hxl : (fmtPf P).data.toList = joinC (P.map onePref) := by
    unfold fmtPf joinB
    rw [bs_toList, List.map_map]
    rfl
  unfold splitL
  rw [hxl, join_mem18 _ (fun m hm => by obtain ⟨p, hp, rfl⟩ := List.mem_map.1 hm; exact ⟨(h p hp).1, (h p hp).2.1⟩), List.take_of_length_le (by rw [List.length_map, List.length_map]; exact hl)]
theorem norm_same {X : List AX} {L : List F} {i : Nat} {st : Bool} (hv : validX X = true) (hi : i < X.length) : sameC X L (normF (kindN X[i].1) L X[i].2) st = true := by
  obtain ⟨k, hk⟩ : ∃ k, kindN X[i].1 = k := ⟨_, rfl⟩
  rw [hk]
  by_cases ho : prefsO k L = true
  · have hva : validA X[i] = true := validX_at hv i hi
    have hrng := kindN_rng X[i].1
    rw [hk] at hrng
    have hk0 : k ≠ 0 := fun e => by
      subst e
      unfold prefsO at ho
      rw [show nameK 0 = ⟨#[]⟩ from rfl] at ho
      simp at ho
    have hkn : kindN X[i].1 ≠ 0 := by rw [hk]; exact hk0
    have hvv : ∀ v ∈ X[i].2, valueV X[i].1 v = true := fun v hvm => by
      obtain ⟨j, hj, rfl⟩ := List.getElem_of_mem hvm
      unfold validA at hva
      rw [Bool.and_eq_true] at hva
      have h1 := hva.2
      unfold valsV at h1
      have h2 := List.all_eq_true.1 h1 j (List.mem_range.2 hj)
      rw [Bool.and_eq_true, atS_is hj] at h2
      exact h2.1
    have hfil : X[i].2.filter (nameV k) = X[i].2 := by
      rw [List.filter_eq_self]
      intro v hvm
      have := value_named hkn (hvv v hvm)
      rw [hk] at this; exact this
    obtain ⟨P, hP⟩ : ∃ P, normP k L X[i].2 = P := ⟨_, rfl⟩
    have hPe : P = X[i].2.map fun v => (v, qualR k (prefsV k L) (prefsO k L) v.data.toList) := by
      rw [← hP]; unfold normP; rw [hfil]
    have hq : ∀ p ∈ prefsV k L, 0 ≤ p.2 ∧ p.2 ≤ 1000 := fun p hp => prefs_q p hp
    have hM : ∀ p ∈ P, NormM k (onePref p) p := fun p hp => by
      rw [hPe] at hp
      obtain ⟨v, hvm, rfl⟩ := List.mem_map.1 hp
      have hb := qualR_rng (k := k) (o := prefsO k L) (v := v.data.toList) hq
      have := norm_one hkn (hvv v hvm) hb.1 hb.2
      rw [hk] at this; exact this
    have hlen : P.length ≤ 64 := by rw [hPe, List.length_map]; have := (validA_len hva).2; omega
    obtain ⟨nm, hnm⟩ : ∃ nm, nameK k = nm := ⟨_, rfl⟩
    obtain ⟨x, hx⟩ : ∃ x, fmtPf P = x := ⟨_, rfl⟩
    have hN : normF k L X[i].2 = remL nm L ++ [(nm, x)] := by unfold normF; rw [if_pos ho, hP, hx, hnm]
    rw [hN]
    have hfn : foldL X[i].1.data.toList nm.data.toList = true := by
      have := kind_fold hkn
      rw [hk, hnm] at this; exact this
    have hspl : splitL x.data.toList = (P.map onePref).map trimL := by rw [← hx]; exact norm_split hM hlen
    have hgm : getL nm (remL nm L ++ [(nm, x)]) = [x] := by
      rw [get_app18, get_rem18 (fold_self _), get_one18, if_pos (show nmd nm (nm, x) = true from fold_self _)]; rfl
    have hall : allL nm (remL nm L ++ [(nm, x)]) = (P.map onePref).map trimL := by
      unfold allL allF
      rw [hgm]
      simp only [List.flatMap_cons, List.flatMap_nil, List.append_nil]
      rw [hspl, List.take_of_length_le (by rw [List.length_map, List.length_map]; exact hlen)]
    have hoM : prefsO k (remL nm L ++ [(nm, x)]) = true := by
      unfold prefsO
      rw [decide_eq_true (name_ne18 (by omega) hrng.2), hnm, List.any_append, Bool.true_and]
      have : nmd nm (nm, x) = true := fold_self _
      simp [this]
    have hpM : prefsV k (remL nm L ++ [(nm, x)]) = ((P.map onePref).map trimL).filterMap (memP k) := by
      unfold prefsV prefsL
      rw [if_pos hoM, hnm, hall]
    refine same_rows hv (fun y hy => ?_)
    obtain ⟨j, hj, rfl⟩ := List.getElem_of_mem hy
    by_cases hji : j = i
    · subst hji
      refine acc_congr (fun h => absurd h hkn) (fun _ v hvm => ?_)
      unfold qlS
      rw [hk, hoM, hpM]
      have hL := norm_like P hM
      have := norm_values (n := X[j].1) (V := X[j].2) (A := prefsV k L) (o := prefsO k L) (P := ((P.map onePref).map trimL).filterMap (memP k)) hkn hvv (by rw [hk, ← hPe]; exact hL) v hvm
      rw [hk] at this
      exact this.symm
    · have hno : foldL X[j].1.data.toList nm.data.toList = false := by
        have h1 := other_axis hv hj hi hji
        cases e : foldL X[j].1.data.toList nm.data.toList with
        | false => rfl
        | true =>
          have := fold_trans e (by rw [fold_symm]; exact hfn)
          rw [h1] at this; cases this
      rw [acc_snoc (f := (nm, x)) hno, acc_rem hno]
  · have hN : normF k L X[i].2 = L := by unfold normF; rw [if_neg ho]
    rw [hN]
    exact same_rows hv (fun _ _ => rfl)
end
section
open Go.RowKit
theorem matchP_acc {r v : List UInt8} {m1 m2 : M} {ok is : Bool} (h1 : ofM (rangeL r) = m1) (h2 : (rangeL r).isSome = ok) (h3 : ofM (mediaL v) = m2) (h4 : (mediaL v).isSome = is) : matchP 1 r v = if (ok && is) = true then matchI m1 m2 else -1 := by
  unfold matchP
  rw [if_pos rfl, ← h2, ← h4, ← h1, ← h3]
  cases rangeL r with
  | none => rfl
  | some a =>
    cases mediaL v with
    | none => rfl
    | some b => rfl
theorem matchP_lan (r v : List UInt8) : matchP 2 r v = matchT r v := by unfold matchP; rw [if_neg (by omega), if_pos rfl]
theorem matchP_cod {k : Int} (h : k = 3 ∨ k = 4) (r v : List UInt8) : matchP k r v = if (tokL r && tokL v && decide (v ≠ [42])) = true then matchC k r v else -1 := by
  unfold matchP; rw [if_neg (by omega), if_neg (by omega), if_pos h]
theorem matchP_no {k : Int} (h1 : ¬ k = 1) (h2 : ¬ k = 2) (h3 : ¬ k = 3) (h4 : ¬ k = 4) (r v : List UInt8) : matchP k r v = -1 := by
  unfold matchP; rw [if_neg h1, if_neg h2, if_neg (by omega)]
theorem rMed13_is {s : ByteArray} {a b : ByteArray} {L : List F} {q : Bool} {w : World} (hs : s.size ≤ 65000) (h : Box (ofM (mediaL s.data.toList) = (a, b, L) ∧ (mediaL s.data.toList).isSome = q)) :
    Calls Tryz.prog 49 #[.string s] w fun e w' => ∃ p cap, e = .returned (.tuple #[.agg #[.string a, .string b, .slice p L.length cap], .bool q]) ∧ Fs w' p L ∧ Below w.heap.size w w' :=
  (rMedia_any s w hs).mono fun e w' ⟨v, h1, h2, h3⟩ => by
    rw [h.out.1] at h1 h2
    rw [h.out.2] at h1
    obtain ⟨p, cap, rfl, hF, _⟩ := h2.fs
    exact ⟨p, cap, h1, hF, h3⟩
theorem rmatch13_is {a b c d : ByteArray} {p q : Option Addr} {cp cq : Nat} {K L : List F} {i : Int} {w : World} (hk : Box (K.length ≤ 65536)) (hl : Box (L.length ≤ 65536))
    (hzK : Box (∀ i (hi : i < K.length), K[i].1.size ≤ 65536 ∧ K[i].2.size ≤ 65536)) (hzL : Box (∀ i (hi : i < L.length), L[i].1.size ≤ 65536 ∧ L[i].2.size ≤ 65536)) (hK : Fs w p K) (hL : Fs w q L) (h : Box (matchI (a, b, K) (c, d, L) = i)) :
    Calls Tryz.prog 63 #[.agg #[.string a, .string b, .slice p K.length cp], .agg #[.string c, .string d, .slice q L.length cq]] w fun e w' => e = .returned (.int .i64 i) ∧ Below w.heap.size w w' :=
  (rMatch_any a b c d p q cp cq K L w hk.out hl.out hzK hzL (box hK) (box hL)).mono fun e w' ⟨h1, h2⟩ => ⟨by rw [h1, h.out], h2⟩
set_option maxHeartbeats 1000000 in
theorem rMatch13_acc (r v : ByteArray) (w : World) (hr : r.size ≤ 20000) (hv : v.size ≤ 20000) :
    Calls Tryz.prog 33 #[.int .i64 1, .string r, .string v] w fun e w' => e = .returned (.int .i64 (matchP 1 r.data.toList v.data.toList)) ∧ Below w.heap.size w w' := by
  obtain ⟨⟨a, b, K⟩, h1⟩ : ∃ m, ofM (rangeL r.data.toList) = m := ⟨_, rfl⟩
  obtain ⟨ok, h2⟩ : ∃ q, (rangeL r.data.toList).isSome = q := ⟨_, rfl⟩
  obtain ⟨⟨c, d, L⟩, h3⟩ : ∃ m, ofM (mediaL v.data.toList) = m := ⟨_, rfl⟩
  obtain ⟨is, h4⟩ : ∃ q, (mediaL v.data.toList).isSome = q := ⟨_, rfl⟩
  have HV := box (matchP_acc h1 h2 h3 h4)
  obtain ⟨k1, k2, _, _⟩ := range_len h1
  obtain ⟨l1, l2, _, _⟩ := media_len h3
  have lK : Box (K.length ≤ 65536) := box (by omega)
  have lL : Box (L.length ≤ 65536) := box (by omega)
  have zK : Box (∀ i (hi : i < K.length), K[i].1.size ≤ 65536 ∧ K[i].2.size ≤ 65536) := box (fun i hi => by have := k2 i hi; omega)
  have zL : Box (∀ i (hi : i < L.length), L[i].1.size ≤ 65536 ∧ L[i].2.size ≤ 65536) := box (fun i hi => by have := l2 i hi; omega)
  have H1 := box (And.intro h1 h2)
  have H2 := box (And.intro h3 h4)
  have hr6 : r.size ≤ 65000 := by omega
  have hv6 : v.size ≤ 65000 := by omega
  clear h1 h2 h3 h4 k1 k2 l1 l2
  go_enter Tryz.func33, Tryz.ntmps33
  go_wp2_with fail
  refine (rRange_is hr6 H1).mono ?_; rintro e w1 ⟨p1, c1, rfl, hO1, hb1⟩
  obtain ⟨p9, c9, hv9, hF1, _⟩ := hO1.fs
  cases hv9
  have hnw := below_new w1 (.cells #[.string a, .string b, .slice p1 K.length c1] 77)
  have C1 := box (C3.new (.string a) (.string b) (.slice p1 K.length c1) w1 77)
  have F1 := box (hF1.below hnw)
  have B1 := box (hb1.trans (hnw.mono hb1.size))
  clear hO1 hF1 hb1 hnw
  go_wp2_with fail
  refine (rMed13_is hv6 H2).mono ?_; rintro e w2 ⟨p2, c2, rfl, hF2, hb2⟩
  have hnw := below_new w2 (.cells #[.string c, .string d, .slice p2 L.length c2] 77)
  have N1 := C1.out.next hb2
  have F2 := box ((F1.out.below hb2).below hnw)
  have G2 := box (hF2.below hnw)
  have B2 := box (B1.out.trans ((hb2.trans (hnw.mono hb2.size)).mono B1.out.size))
  have hne : w1.heap.size ≠ w2.heap.size := Nat.ne_of_lt N1.lt
  obtain ⟨⟨s0, s1, s2⟩, _⟩ := N1.next hnw
  obtain ⟨⟨r0, r1, r2⟩, _⟩ := N1
  clear hF2 hb2 hnw
  cases ok with
  | false =>
    have HR : Box (matchP 1 r.data.toList v.data.toList = -1) := box (by rw [HV.out]; rfl)
    go_wp2
    go_ret
    exact ⟨by rw [HR.out]; rfl, B2.out⟩
  | true =>
    cases is with
    | false =>
      have HR : Box (matchP 1 r.data.toList v.data.toList = -1) := box (by rw [HV.out]; rfl)
      go_wp2
      go_ret
      exact ⟨by rw [HR.out]; rfl, B2.out⟩
    | true =>
      have HR : Box (matchI (a, b, K) (c, d, L) = matchP 1 r.data.toList v.data.toList) := box (by rw [HV.out]; rfl)
      go_wp2_with fail
      refine (rmatch13_is lK lL zK zL F2.out G2.out HR).mono ?_; rintro e w3 ⟨rfl, hb3⟩
      have B3 := box (B2.out.trans (hb3.mono B2.out.size))
      clear hb3 r0 r1 r2 s0 s1 s2
      go_wp2
      go_ret
      exact ⟨rfl, B3.out⟩
theorem rMatchC13_is {k i : Int} {r v : ByteArray} {w : World} (hk : InI64 k) (hr : r.size ≤ 20000) (hv : v.size ≤ 20000) (h : Box (matchC k r.data.toList v.data.toList = i)) :
    Calls Tryz.prog 65 #[.int .i64 k, .string r, .string v] w fun e w' => e = .returned (.int .i64 i) ∧ Below w.heap.size w w' :=
  (rMatchC_any k r v w hk (by omega) (by omega)).mono fun e w' ⟨h1, h2⟩ => ⟨by rw [h1, h.out], h2⟩
theorem star13 {s : ByteArray} : (s.toList == [42]) = decide (s.data.toList = [42]) := by
  rw [toList_data]
  by_cases h : s.data.toList = [42]
  · rw [decide_eq_true h, h]; rfl
  · rw [decide_eq_false h, beq_eq_false_iff_ne]; exact h
set_option maxHeartbeats 1000000 in
theorem rMatch13_cod (k : Int) (r v : ByteArray) (w : World) (hk : k = 3 ∨ k = 4) (hr : r.size ≤ 20000) (hv : v.size ≤ 20000) :
    Calls Tryz.prog 33 #[.int .i64 k, .string r, .string v] w fun e w' => e = .returned (.int .i64 (matchP k r.data.toList v.data.toList)) ∧ Below w.heap.size w w' := by
  have HV := box (matchP_cod hk r.data.toList v.data.toList)
  have hki : InI64 k := by rcases hk with rfl | rfl <;> exact ⟨by omega, by omega⟩
  have hst := star13 (s := v)
  have hrm : r.size ≤ maxLen := by unfold maxLen; omega
  have hvm : v.size ≤ maxLen := by unfold maxLen; omega
  cases ht : tokL r.data.toList with
  | false =>
    have HT := box ht
    have HR : Box (matchP k r.data.toList v.data.toList = -1) := box (by rw [HV.out, ht]; rfl)
    clear ht
    rcases hk with rfl | rfl
    all_goals
      go_enter Tryz.func33, Tryz.ntmps33
      go_wp2_with fail
      refine (rTok13_is hrm HT).mono ?_; rintro e w1 ⟨rfl, rfl⟩
      go_wp2
      go_ret
      exact ⟨by rw [HR.out]; rfl, Below.refl _ _⟩
  | true =>
    have HT := box ht
    cases hu : tokL v.data.toList with
    | false =>
      have HU := box hu
      have HR : Box (matchP k r.data.toList v.data.toList = -1) := box (by rw [HV.out, ht, hu]; rfl)
      clear ht hu
      rcases hk with rfl | rfl
      all_goals
        go_enter Tryz.func33, Tryz.ntmps33
        go_wp2_with fail
        refine (rTok13_is hrm HT).mono ?_; rintro e w1 ⟨rfl, rfl⟩
        go_wp2_with fail
        refine (rTok13_is hvm HU).mono ?_; rintro e w1 ⟨rfl, rfl⟩
        go_wp2
        go_ret
        exact ⟨by rw [HR.out]; rfl, Below.refl _ _⟩
    | true =>
      have HU := box hu
      by_cases hs : v.data.toList = [42]
      · have HR : Box (matchP k r.data.toList v.data.toList = -1) := box (by rw [HV.out, ht, hu, decide_eq_false (by simp [hs])]; rfl)
        rw [decide_eq_true hs] at hst
        clear ht hu hs
        rcases hk with rfl | rfl
        all_goals
          go_enter Tryz.func33, Tryz.ntmps33
          go_wp2_with fail
          refine (rTok13_is hrm HT).mono ?_; rintro e w1 ⟨rfl, rfl⟩
          go_wp2_with fail
          refine (rTok13_is hvm HU).mono ?_; rintro e w1 ⟨rfl, rfl⟩
          go_wp2
          go_ret
          exact ⟨by rw [HR.out]; rfl, Below.refl _ _⟩
      · have HR : Box (matchC k r.data.toList v.data.toList = matchP k r.data.toList v.data.toList) := box (by rw [HV.out, ht, hu, decide_eq_true hs]; rfl)
        rw [decide_eq_false hs] at hst
        clear ht hu hs
        rcases hk with rfl | rfl
        all_goals
          go_enter Tryz.func33, Tryz.ntmps33
          go_wp2_with fail
          refine (rTok13_is hrm HT).mono ?_; rintro e w1 ⟨rfl, rfl⟩
          go_wp2_with fail
          refine (rTok13_is hvm HU).mono ?_; rintro e w1 ⟨rfl, rfl⟩
          go_wp2_with fail
          refine (rMatchC13_is hki hr hv HR).mono ?_; rintro e w2 ⟨rfl, hb2⟩
          go_wp2
          go_ret
          exact ⟨rfl, hb2⟩
theorem rMatch13_any (k : Int) (r v : ByteArray) (w : World) (hk : InI64 k) (hr : r.size ≤ 20000) (hv : v.size ≤ 20000) :
    Calls Tryz.prog 33 #[.int .i64 k, .string r, .string v] w fun e w' => e = .returned (.int .i64 (matchP k r.data.toList v.data.toList)) ∧ Below w.heap.size w w' := by
  by_cases h1 : k = 1
  · subst h1; exact rMatch13_acc r v w hr hv
  · by_cases h2 : k = 2
    · subst h2
      have HV := box (matchP_lan r.data.toList v.data.toList)
      have hr6 : r.size ≤ 65000 := by omega
      have hv6 : v.size ≤ 65000 := by omega
      clear h1
      go_enter Tryz.func33, Tryz.ntmps33
      go_wp2_with fail
      refine (rMatchT_any r v _ hr6 hv6).mono ?_; rintro e w1 ⟨rfl, hb1⟩
      go_wp2
      go_ret
      exact ⟨by rw [HV.out]; rfl, hb1⟩
    · by_cases h34 : k = 3 ∨ k = 4
      · exact rMatch13_cod k r v w h34 hr hv
      · have h3 : ¬ k = 3 := fun h => h34 (.inl h)
        have h4 : ¬ k = 4 := fun h => h34 (.inr h)
        have HV := box (matchP_no h1 h2 h3 h4 r.data.toList v.data.toList)
        have e1 : (k == 1) = false := by rw [beq_eq_false_iff_ne]; exact h1
        have e2 : (k == 2) = false := by rw [beq_eq_false_iff_ne]; exact h2
        have e3 : (k == 3) = false := by rw [beq_eq_false_iff_ne]; exact h3
        have e4 : (k == 4) = false := by rw [beq_eq_false_iff_ne]; exact h4
        clear h1 h2 h3 h4 h34
        go_enter Tryz.func33, Tryz.ntmps33
        go_wp2
        go_ret
        exact ⟨by rw [HV.out]; rfl, Below.refl _ _⟩
end
section
open Go.RowKit
theorem rMatch14_is {k i : Int} {r v : ByteArray} {w : World} (hk : InI64 k) (hr : r.size ≤ 20000) (hv : v.size ≤ 20000) (h : Box (matchP k r.data.toList v.data.toList = i)) :
    Calls Tryz.prog 33 #[.int .i64 k, .string r, .string v] w fun e w' => e = .returned (.int .i64 i) ∧ Below w.heap.size w w' :=
  (rMatch13_any k r v w hk hr hv).mono fun e w' ⟨h1, h2⟩ => ⟨by rw [h1, h.out], h2⟩
theorem qual0_no {k : Int} {v : List UInt8} (h : ¬ k = 4) : qual0 k v = 0 := by unfold qual0; rw [if_neg (fun h1 => h h1.1)]
theorem qual0_off {v : List UInt8} (h : foldL v idenL = false) : qual0 4 v = 0 := by unfold qual0; rw [h, if_neg (fun h1 => by cases h1.2)]
theorem qual0_on {v : List UInt8} (h : foldL v idenL = true) : qual0 4 v = 1 := by unfold qual0; rw [h, if_pos ⟨rfl, rfl⟩]
def QlRel (k : Int) (v : List UInt8) (L : List QP) (W : World) (b q i : Value) (wr : World) : Prop :=
  ∃ (x y : Int) (j : Nat), b = .int .i64 x ∧ q = .int .i64 y ∧ i = .int .i64 j ∧ j ≤ L.length ∧ bestQ k v (L.take j) (-1, qual0 k v) = (x, y) ∧ Below W.heap.size W wr
theorem QlRel.below {k : Int} {v : List UInt8} {L : List QP} {W w1 w2 : World} {b q i : Value} (h : QlRel k v L W b q i w1) (hb : Below w1.heap.size w1 w2) : QlRel k v L W b q i w2 := by
  obtain ⟨x, y, j, h1, h2, h3, h4, h5, h6⟩ := h
  exact ⟨x, y, j, h1, h2, h3, h4, h5, h6.trans (hb.mono h6.size)⟩
theorem qual_step1 {k s x y z : Int} {v : List UInt8} {L : List QP} {j : Nat} {p : QP} (hj : j < L.length) (hp : L[j] = p) (h : bestQ k v (L.take j) (-1, qual0 k v) = (x, y)) (hs : matchP k p.1.data.toList v = s) (hlt : x < s) (hz : p.2 = z) : bestQ k v (L.take (j + 1)) (-1, qual0 k v) = (s, z) := by
  rw [best_next hj, h, hp]
  unfold stepQ14
  rw [hs, if_pos hlt, hz]
theorem qual_step2 {k s x y : Int} {v : List UInt8} {L : List QP} {j : Nat} {p : QP} (hj : j < L.length) (hp : L[j] = p) (h : bestQ k v (L.take j) (-1, qual0 k v) = (x, y)) (hs : matchP k p.1.data.toList v = s) (hlt : ¬ x < s) : bestQ k v (L.take (j + 1)) (-1, qual0 k v) = (x, y) := by
  rw [best_next hj, h, hp]
  unfold stepQ14
  rw [hs, if_neg hlt]
theorem iden_lit : (⟨#[105, 100, 101, 110, 116, 105, 116, 121]⟩ : ByteArray).data.toList = idenL := rfl
set_option maxHeartbeats 1000000 in
theorem rQuality_any (k : Int) (a : Option Addr) (cap : Nat) (L : List QP) (present : Bool) (v : ByteArray) (w : World) (hk : InI64 k) (hl : L.length ≤ 65536) (hz : Box (∀ i (hi : i < L.length), L[i].1.size ≤ 20000)) (hv : v.size ≤ 20000) (hF : Box (Qs w a L)) :
    Calls Tryz.prog 51 #[.int .i64 k, .slice a L.length cap, .bool present, .string v] w fun e w' => e = .returned (.int .i64 (qualR k L present v.data.toList)) ∧ Below w.heap.size w w' := by
  cases present with
  | false =>
    go_enter Tryz.func51, Tryz.ntmps51
    go_wp2
    go_ret
    exact ⟨rfl, Below.refl _ _⟩
  | true =>
    have hv4 : v.size ≤ 4294967296 := by omega
    have h8 : (⟨#[105, 100, 101, 110, 116, 105, 116, 121]⟩ : ByteArray).size ≤ 4294967296 := by decide
    have h0 : Box (QlRel k v.data.toList L w (.int .i64 (-1)) (.int .i64 (qual0 k v.data.toList)) (.int .i64 0) w) := box ⟨-1, qual0 k v.data.toList, 0, rfl, rfl, rfl, Nat.zero_le _, rfl, Below.refl _ _⟩
    have hcases : (k = 4 ∧ foldL v.data.toList idenL = false ∧ qual0 k v.data.toList = 0) ∨ (k = 4 ∧ foldL v.data.toList idenL = true ∧ qual0 k v.data.toList = 1) ∨ (¬ k = 4 ∧ qual0 k v.data.toList = 0) := by
      by_cases h4 : k = 4
      · subst h4
        cases hf : foldL v.data.toList idenL with
        | false => exact .inl ⟨rfl, rfl, qual0_off hf⟩
        | true => exact .inr (.inl ⟨rfl, rfl, qual0_on hf⟩)
      · exact .inr (.inr ⟨h4, qual0_no h4⟩)
    rcases hcases with ⟨h4, hf, hu⟩ | ⟨h4, hf, hu⟩ | ⟨h4, hu⟩
    · subst h4
      have HF : Box (foldL v.data.toList (⟨#[105, 100, 101, 110, 116, 105, 116, 121]⟩ : ByteArray).data.toList = false) := box (by rw [iden_lit]; exact hf)
      rw [hu] at h0
      clear hf hu
      go_enter Tryz.func51, Tryz.ntmps51
      go_wp2_with fail
      refine (rFold13_is hv4 h8 HF).mono ?_; rintro e w1 ⟨rfl, hb1⟩
      have h1 := box (h0.out.below hb1)
      clear hb1 h0
      go_wp2
      go_loopw [9, 10, 11, 12] (fun b q i _ wr => QlRel 4 v.data.toList L w b q i wr) (fun _ _ i _ _ => L.length - (intOf i).toNat)
      case atStart => exact h1.out
      case round =>
        obtain ⟨x, y, j, rfl, rfl, rfl, hj, hbest, hbel⟩ := hrel
        have HB := box hbest
        have BL := box hbel
        have F1 := box (hF.out.below hbel)
        clear hbest hbel
        by_cases hlt : j < L.length
        · have hji : (j : Int) < (L.length : Int) := by omega
          obtain ⟨p, hp⟩ : ∃ p, L[j] = p := ⟨_, rfl⟩
          have HP := box hp
          have hpz : p.1.size ≤ 20000 := by have := hz.out j hlt; rw [hp] at this; exact this
          obtain ⟨s, hs⟩ : ∃ s, matchP 4 p.1.data.toList v.data.toList = s := ⟨_, rfl⟩
          have HS := box hs
          obtain ⟨g, off, rfl, c0, c1⟩ := F1.out j hlt
          rw [hp] at c0 c1
          have C1 := box c1
          clear hs hp c1
          by_cases hgt : x < s
          · have HN : Box (bestQ 4 v.data.toList (L.take (j + 1)) (-1, qual0 4 v.data.toList) = (s, p.2)) := box (qual_step1 hlt HP.out HB.out HS.out hgt rfl)
            go_wp2_with fail
            refine (rMatch14_is hk hpz hv HS).mono ?_; rintro e w2 ⟨rfl, hb2⟩
            have B2 := box (BL.out.trans (hb2.mono BL.out.size))
            have c2 := (hb2.cell (cell_lt C1.out)).trans C1.out
            clear hb2 c0
            go_wp2_with fail
            go_region
            go_wp2
            go_roundw
            case rel => exact ⟨s, p.2, j + 1, rfl, rfl, by go_num, hlt, HN.out, B2.out.drew⟩
            case measure => simp [intOf]; omega
          · have HN : Box (bestQ 4 v.data.toList (L.take (j + 1)) (-1, qual0 4 v.data.toList) = (x, y)) := box (qual_step2 hlt HP.out HB.out HS.out hgt)
            go_wp2_with fail
            refine (rMatch14_is hk hpz hv HS).mono ?_; rintro e w2 ⟨rfl, hb2⟩
            have B2 := box (BL.out.trans (hb2.mono BL.out.size))
            clear hb2 c0
            go_wp2
            go_roundw
            case rel => exact ⟨x, y, j + 1, rfl, rfl, by go_num, hlt, HN.out, B2.out⟩
            case measure => simp [intOf]; omega
        · have hji : ¬ (j : Int) < (L.length : Int) := by omega
          have HV : Box (qualR 4 L true v.data.toList = y) := box (by
            have hjl : j = L.length := by omega
            subst hjl
            have := HB.out
            rw [List.take_length] at this
            unfold qualR; rw [if_pos rfl, this])
          go_wp2
          go_ret
          exact ⟨by rw [HV.out]; rfl, BL.out⟩
    · subst h4
      have HF : Box (foldL v.data.toList (⟨#[105, 100, 101, 110, 116, 105, 116, 121]⟩ : ByteArray).data.toList = true) := box (by rw [iden_lit]; exact hf)
      rw [hu] at h0
      clear hf hu
      go_enter Tryz.func51, Tryz.ntmps51
      go_wp2_with fail
      refine (rFold13_is hv4 h8 HF).mono ?_; rintro e w1 ⟨rfl, hb1⟩
      have h1 := box (h0.out.below hb1)
      clear hb1 h0
      go_wp2
      go_loopw [9, 10, 11, 12] (fun b q i _ wr => QlRel 4 v.data.toList L w b q i wr) (fun _ _ i _ _ => L.length - (intOf i).toNat)
      case atStart => exact h1.out
      case round =>
        obtain ⟨x, y, j, rfl, rfl, rfl, hj, hbest, hbel⟩ := hrel
        have HB := box hbest
        have BL := box hbel
        have F1 := box (hF.out.below hbel)
        clear hbest hbel
        by_cases hlt : j < L.length
        · have hji : (j : Int) < (L.length : Int) := by omega
          obtain ⟨p, hp⟩ : ∃ p, L[j] = p := ⟨_, rfl⟩
          have HP := box hp
          have hpz : p.1.size ≤ 20000 := by have := hz.out j hlt; rw [hp] at this; exact this
          obtain ⟨s, hs⟩ : ∃ s, matchP 4 p.1.data.toList v.data.toList = s := ⟨_, rfl⟩
          have HS := box hs
          obtain ⟨g, off, rfl, c0, c1⟩ := F1.out j hlt
          rw [hp] at c0 c1
          have C1 := box c1
          clear hs hp c1
          by_cases hgt : x < s
          · have HN : Box (bestQ 4 v.data.toList (L.take (j + 1)) (-1, qual0 4 v.data.toList) = (s, p.2)) := box (qual_step1 hlt HP.out HB.out HS.out hgt rfl)
            go_wp2_with fail
            refine (rMatch14_is hk hpz hv HS).mono ?_; rintro e w2 ⟨rfl, hb2⟩
            have B2 := box (BL.out.trans (hb2.mono BL.out.size))
            have c2 := (hb2.cell (cell_lt C1.out)).trans C1.out
            clear hb2 c0
            go_wp2_with fail
            go_region
            go_wp2
            go_roundw
            case rel => exact ⟨s, p.2, j + 1, rfl, rfl, by go_num, hlt, HN.out, B2.out.drew⟩
            case measure => simp [intOf]; omega
          · have HN : Box (bestQ 4 v.data.toList (L.take (j + 1)) (-1, qual0 4 v.data.toList) = (x, y)) := box (qual_step2 hlt HP.out HB.out HS.out hgt)
            go_wp2_with fail
            refine (rMatch14_is hk hpz hv HS).mono ?_; rintro e w2 ⟨rfl, hb2⟩
            have B2 := box (BL.out.trans (hb2.mono BL.out.size))
            clear hb2 c0
            go_wp2
            go_roundw
            case rel => exact ⟨x, y, j + 1, rfl, rfl, by go_num, hlt, HN.out, B2.out⟩
            case measure => simp [intOf]; omega
        · have hji : ¬ (j : Int) < (L.length : Int) := by omega
          have HV : Box (qualR 4 L true v.data.toList = y) := box (by
            have hjl : j = L.length := by omega
            subst hjl
            have := HB.out
            rw [List.take_length] at this
            unfold qualR; rw [if_pos rfl, this])
          go_wp2
          go_ret
          exact ⟨by rw [HV.out]; rfl, BL.out⟩
    · have e4 : (k == 4) = false := by rw [beq_eq_false_iff_ne]; exact h4
      rw [hu] at h0
      have h1 := h0
      clear hu h4 h0
      go_enter Tryz.func51, Tryz.ntmps51
      go_wp2
      go_loopw [9, 10, 11, 12] (fun b q i _ wr => QlRel k v.data.toList L w b q i wr) (fun _ _ i _ _ => L.length - (intOf i).toNat)
      case atStart => exact h1.out
      case round =>
        obtain ⟨x, y, j, rfl, rfl, rfl, hj, hbest, hbel⟩ := hrel
        have HB := box hbest
        have BL := box hbel
        have F1 := box (hF.out.below hbel)
        clear hbest hbel
        by_cases hlt : j < L.length
        · have hji : (j : Int) < (L.length : Int) := by omega
          obtain ⟨p, hp⟩ : ∃ p, L[j] = p := ⟨_, rfl⟩
          have HP := box hp
          have hpz : p.1.size ≤ 20000 := by have := hz.out j hlt; rw [hp] at this; exact this
          obtain ⟨s, hs⟩ : ∃ s, matchP k p.1.data.toList v.data.toList = s := ⟨_, rfl⟩
          have HS := box hs
          obtain ⟨g, off, rfl, c0, c1⟩ := F1.out j hlt
          rw [hp] at c0 c1
          have C1 := box c1
          clear hs hp c1
          by_cases hgt : x < s
          · have HN : Box (bestQ k v.data.toList (L.take (j + 1)) (-1, qual0 k v.data.toList) = (s, p.2)) := box (qual_step1 hlt HP.out HB.out HS.out hgt rfl)
            go_wp2_with fail
            refine (rMatch14_is hk hpz hv HS).mono ?_; rintro e w2 ⟨rfl, hb2⟩
            have B2 := box (BL.out.trans (hb2.mono BL.out.size))
            have c2 := (hb2.cell (cell_lt C1.out)).trans C1.out
            clear hb2 c0
            go_wp2_with fail
            go_region
            go_wp2
            go_roundw
            case rel => exact ⟨s, p.2, j + 1, rfl, rfl, by go_num, hlt, HN.out, B2.out.drew⟩
            case measure => simp [intOf]; omega
          · have HN : Box (bestQ k v.data.toList (L.take (j + 1)) (-1, qual0 k v.data.toList) = (x, y)) := box (qual_step2 hlt HP.out HB.out HS.out hgt)
            go_wp2_with fail
            refine (rMatch14_is hk hpz hv HS).mono ?_; rintro e w2 ⟨rfl, hb2⟩
            have B2 := box (BL.out.trans (hb2.mono BL.out.size))
            clear hb2 c0
            go_wp2
            go_roundw
            case rel => exact ⟨x, y, j + 1, rfl, rfl, by go_num, hlt, HN.out, B2.out⟩
            case measure => simp [intOf]; omega
        · have hji : ¬ (j : Int) < (L.length : Int) := by omega
          have HV : Box (qualR k L true v.data.toList = y) := box (by
            have hjl : j = L.length := by omega
            subst hjl
            have := HB.out
            rw [List.take_length] at this
            unfold qualR; rw [if_pos rfl, this])
          go_wp2
          go_ret
          exact ⟨by rw [HV.out]; rfl, BL.out⟩
end
section
open Go.RowKit
def OwnPost (w : World) (R : List ByteArray) (e : Ending) (w' : World) : Prop := ∃ v, e = .returned v ∧ OwnS w' w.heap.size v R ∧ Below w.heap.size w w'
end
section
open Go.RowKit
theorem mName0_any (k : Int) (w : World) (hk : InI64 k) :
    Calls Tryz.prog 44 #[.int .i64 k] w fun e w' => e = .returned (.string (nameK k)) ∧ w = w' := by
  by_cases h1 : k = 1
  · subst h1
    go_enter Tryz.func44, Tryz.ntmps44
    go_wp2
    go_ret
    exact ⟨rfl, rfl⟩
  · by_cases h2 : k = 2
    · subst h2
      go_enter Tryz.func44, Tryz.ntmps44
      go_wp2
      go_ret
      exact ⟨rfl, rfl⟩
    · by_cases h3 : k = 3
      · subst h3
        go_enter Tryz.func44, Tryz.ntmps44
        go_wp2
        go_ret
        exact ⟨rfl, rfl⟩
      · by_cases h4 : k = 4
        · subst h4
          go_enter Tryz.func44, Tryz.ntmps44
          go_wp2
          go_ret
          exact ⟨rfl, rfl⟩
        · have HV := box (name_no h1 h2 h3 h4)
          have e1 : (k == 1) = false := by rw [beq_eq_false_iff_ne]; exact h1
          have e2 : (k == 2) = false := by rw [beq_eq_false_iff_ne]; exact h2
          have e3 : (k == 3) = false := by rw [beq_eq_false_iff_ne]; exact h3
          have e4 : (k == 4) = false := by rw [beq_eq_false_iff_ne]; exact h4
          clear h1 h2 h3 h4
          go_enter Tryz.func44, Tryz.ntmps44
          go_wp2
          go_ret
          exact ⟨by rw [HV.out]; rfl, rfl⟩
theorem mName_any (k : Int) (w : World) (hk : InI64 k) :
    Calls Tryz.prog 44 #[.int .i64 k] w fun e w' => e = .returned (.string (nameK k)) ∧ Below w.heap.size w w' :=
  (mName0_any k w hk).mono fun e w' ⟨h1, h2⟩ => ⟨h1, by rw [← h2]; exact Below.refl _ _⟩
theorem mName0_is {k : Int} {x : ByteArray} {w : World} (hk : InI64 k) (h : Box (nameK k = x)) :
    Calls Tryz.prog 44 #[.int .i64 k] w fun e w' => e = .returned (.string x) ∧ w = w' :=
  (mName0_any k w hk).mono fun e w' ⟨h1, h2⟩ => ⟨by rw [h1, h.out], h2⟩
theorem mFold13_is {a b : ByteArray} {q : Bool} {w : World} (ha : a.size ≤ 65536) (hb : b.size ≤ 65536) (h : Box (foldL a.data.toList b.data.toList = q)) :
    Calls Tryz.prog 126 #[.string a, .string b] w fun e w' => e = .returned (.bool q) ∧ Below w.heap.size w w' :=
  (Fold_any a b w (by unfold maxLen; omega) (by unfold maxLen; omega)).mono fun e w' ⟨h1, h2⟩ => ⟨by rw [h1, h.out], h2⟩
/-- the names up to j are others -/
def KdMRel (n : ByteArray) (W : World) (i : Value) (wr : World) : Prop := ∃ j : Int, i = .int .i64 j ∧ (j = 0 ∨ j = 1 ∨ j = 2 ∨ j = 3 ∨ j = 4) ∧ Box (∀ i : Int, 1 ≤ i → i ≤ j → foldL n.data.toList (nameK i).data.toList = false) ∧ Below W.heap.size W wr
theorem kind_atI {n : ByteArray} {j : Int} (h1 : 1 ≤ j) (h4 : j ≤ 4) (hn : ∀ i : Int, 1 ≤ i → i < j → foldL n.data.toList (nameK i).data.toList = false) (h : foldL n.data.toList (nameK j).data.toList = true) : kindN n = j := by
  have e : ((j.toNat : Nat) : Int) = j := by omega
  have := kind_at (n := n) (j := j.toNat) (by omega) (by omega) (fun i a b => hn i (by omega) (by omega)) (by rw [e]; exact h)
  rw [e] at this; exact this
theorem kind_moreI {n x : ByteArray} {j k : Int} (hk : k = j + 1) (hx : nameK k = x) (hn : ∀ i : Int, 1 ≤ i → i ≤ j → foldL n.data.toList (nameK i).data.toList = false) (h : foldL n.data.toList x.data.toList = false) : ∀ i : Int, 1 ≤ i → i ≤ k → foldL n.data.toList (nameK i).data.toList = false := by
  intro i h1 h2
  by_cases e : i = k
  · rw [e, hx]; exact h
  · exact hn i h1 (by omega)
set_option maxHeartbeats 1000000 in
theorem mKind_any (n : ByteArray) (w : World) (hn : n.size ≤ 65536) :
    Calls Tryz.prog 107 #[.string n] w fun e w' => e = .returned (.int .i64 (kindN n)) ∧ Below w.heap.size w w' := by
  have ix0 : ∀ w, (Instr.index 138 (.agg #[.int .i64 1, .int .i64 2, .int .i64 3, .int .i64 4]) (.int .i64 0)).run Tryz.prog w = .ok (.int .i64 1) w := fun w => by rfl
  have ix1 : ∀ w, (Instr.index 138 (.agg #[.int .i64 1, .int .i64 2, .int .i64 3, .int .i64 4]) (.int .i64 1)).run Tryz.prog w = .ok (.int .i64 2) w := fun w => by rfl
  have ix2 : ∀ w, (Instr.index 138 (.agg #[.int .i64 1, .int .i64 2, .int .i64 3, .int .i64 4]) (.int .i64 2)).run Tryz.prog w = .ok (.int .i64 3) w := fun w => by rfl
  have ix3 : ∀ w, (Instr.index 138 (.agg #[.int .i64 1, .int .i64 2, .int .i64 3, .int .i64 4]) (.int .i64 3)).run Tryz.prog w = .ok (.int .i64 4) w := fun w => by rfl
  go_enter Tryz.func107, Tryz.ntmps107
  go_wp2
  go_loopw [6] (fun i wr => KdMRel n w i wr) (fun i _ => 4 - (intOf i).toNat)
  case atStart => exact ⟨0, rfl, .inl rfl, box (fun i h1 h2 => by omega), Below.refl _ _⟩
  case round =>
    obtain ⟨j, rfl, hj, HNO, hbel⟩ := hrel
    have BL := box hbel
    clear hbel
    rcases hj with rfl | rfl | rfl | rfl | rfl
    · obtain ⟨x, hx⟩ : ∃ x, nameK 1 = x := ⟨_, rfl⟩
      have HX := box hx
      have hxz : x.size ≤ 65536 := by have := name_size 1; rw [hx] at this; omega
      cases hf : foldL n.data.toList x.data.toList with
      | true =>
        have HF := box hf
        have HV : Box (kindN n = 1) := box (kind_atI (by omega) (by omega) (fun i h1 h2 => HNO.out i h1 (by omega)) (by rw [hx]; exact hf))
        clear hf hx
        go_wp2_with fail
        refine (mName0_is ⟨by omega, by omega⟩ HX).mono ?_; rintro e w1 ⟨rfl, rfl⟩
        go_wp2_with fail
        refine (mFold13_is hn hxz HF).mono ?_; rintro e w2 ⟨rfl, hb2⟩
        have B2 := box (BL.out.trans (hb2.mono BL.out.size))
        clear hb2
        go_wp2
        go_ret
        exact ⟨by rw [HV.out]; rfl, B2.out⟩
      | false =>
        have HF := box hf
        have HN2 := box (kind_moreI (k := 1) (by omega) hx HNO.out hf)
        clear hf hx
        go_wp2_with fail
        refine (mName0_is ⟨by omega, by omega⟩ HX).mono ?_; rintro e w1 ⟨rfl, rfl⟩
        go_wp2_with fail
        refine (mFold13_is hn hxz HF).mono ?_; rintro e w2 ⟨rfl, hb2⟩
        have B2 := box (BL.out.trans (hb2.mono BL.out.size))
        clear hb2
        go_wp2
        go_roundw
        case rel => exact ⟨1, by go_num, by omega, HN2, B2.out⟩
        case measure => simp [intOf]
    · obtain ⟨x, hx⟩ : ∃ x, nameK 2 = x := ⟨_, rfl⟩
      have HX := box hx
      have hxz : x.size ≤ 65536 := by have := name_size 2; rw [hx] at this; omega
      cases hf : foldL n.data.toList x.data.toList with
      | true =>
        have HF := box hf
        have HV : Box (kindN n = 2) := box (kind_atI (by omega) (by omega) (fun i h1 h2 => HNO.out i h1 (by omega)) (by rw [hx]; exact hf))
        clear hf hx
        go_wp2_with fail
        refine (mName0_is ⟨by omega, by omega⟩ HX).mono ?_; rintro e w1 ⟨rfl, rfl⟩
        go_wp2_with fail
        refine (mFold13_is hn hxz HF).mono ?_; rintro e w2 ⟨rfl, hb2⟩
        have B2 := box (BL.out.trans (hb2.mono BL.out.size))
        clear hb2
        go_wp2
        go_ret
        exact ⟨by rw [HV.out]; rfl, B2.out⟩
      | false =>
        have HF := box hf
        have HN2 := box (kind_moreI (k := 2) (by omega) hx HNO.out hf)
        clear hf hx
        go_wp2_with fail
        refine (mName0_is ⟨by omega, by omega⟩ HX).mono ?_; rintro e w1 ⟨rfl, rfl⟩
        go_wp2_with fail
        refine (mFold13_is hn hxz HF).mono ?_; rintro e w2 ⟨rfl, hb2⟩
        have B2 := box (BL.out.trans (hb2.mono BL.out.size))
        clear hb2
        go_wp2
        go_roundw
        case rel => exact ⟨2, by go_num, by omega, HN2, B2.out⟩
        case measure => simp [intOf]
    · obtain ⟨x, hx⟩ : ∃ x, nameK 3 = x := ⟨_, rfl⟩
      have HX := box hx
      have hxz : x.size ≤ 65536 := by have := name_size 3; rw [hx] at this; omega
      cases hf : foldL n.data.toList x.data.toList with
      | true =>
        have HF := box hf
        have HV : Box (kindN n = 3) := box (kind_atI (by omega) (by omega) (fun i h1 h2 => HNO.out i h1 (by omega)) (by rw [hx]; exact hf))
        clear hf hx
        go_wp2_with fail
        refine (mName0_is ⟨by omega, by omega⟩ HX).mono ?_; rintro e w1 ⟨rfl, rfl⟩
        go_wp2_with fail
        refine (mFold13_is hn hxz HF).mono ?_; rintro e w2 ⟨rfl, hb2⟩
        have B2 := box (BL.out.trans (hb2.mono BL.out.size))
        clear hb2
        go_wp2
        go_ret
        exact ⟨by rw [HV.out]; rfl, B2.out⟩
      | false =>
        have HF := box hf
        have HN2 := box (kind_moreI (k := 3) (by omega) hx HNO.out hf)
        clear hf hx
        go_wp2_with fail
        refine (mName0_is ⟨by omega, by omega⟩ HX).mono ?_; rintro e w1 ⟨rfl, rfl⟩
        go_wp2_with fail
        refine (mFold13_is hn hxz HF).mono ?_; rintro e w2 ⟨rfl, hb2⟩
        have B2 := box (BL.out.trans (hb2.mono BL.out.size))
        clear hb2
        go_wp2
        go_roundw
        case rel => exact ⟨3, by go_num, by omega, HN2, B2.out⟩
        case measure => simp [intOf]
    · obtain ⟨x, hx⟩ : ∃ x, nameK 4 = x := ⟨_, rfl⟩
      have HX := box hx
      have hxz : x.size ≤ 65536 := by have := name_size 4; rw [hx] at this; omega
      cases hf : foldL n.data.toList x.data.toList with
      | true =>
        have HF := box hf
        have HV : Box (kindN n = 4) := box (kind_atI (by omega) (by omega) (fun i h1 h2 => HNO.out i h1 (by omega)) (by rw [hx]; exact hf))
        clear hf hx
        go_wp2_with fail
        refine (mName0_is ⟨by omega, by omega⟩ HX).mono ?_; rintro e w1 ⟨rfl, rfl⟩
        go_wp2_with fail
        refine (mFold13_is hn hxz HF).mono ?_; rintro e w2 ⟨rfl, hb2⟩
        have B2 := box (BL.out.trans (hb2.mono BL.out.size))
        clear hb2
        go_wp2
        go_ret
        exact ⟨by rw [HV.out]; rfl, B2.out⟩
      | false =>
        have HF := box hf
        have HN2 := box (kind_moreI (k := 4) (by omega) hx HNO.out hf)
        clear hf hx
        go_wp2_with fail
        refine (mName0_is ⟨by omega, by omega⟩ HX).mono ?_; rintro e w1 ⟨rfl, rfl⟩
        go_wp2_with fail
        refine (mFold13_is hn hxz HF).mono ?_; rintro e w2 ⟨rfl, hb2⟩
        have B2 := box (BL.out.trans (hb2.mono BL.out.size))
        clear hb2
        go_wp2
        go_roundw
        case rel => exact ⟨4, by go_num, by omega, HN2, B2.out⟩
        case measure => simp [intOf]
    · have HV : Box (kindN n = 0) := box (kind_no fun i hi1 hi2 => HNO.out i (by omega) (by omega))
      go_wp2
      go_ret
      exact ⟨by rw [HV.out]; rfl, BL.out⟩
end
section
open Go.RowKit Go.Maps
theorem laidOut10 : laidOutB Tryz.prog = true := by kernel_rfl
theorem rowPrm : (109 : TypeId) < Tryz.prog.types.size := of_decide_eq_true (by kernel_rfl)
theorem widePrm : (match Tryz.prog.underlying 109 with | some (.array _ _) | some (.struct _) => true | _ => false) = true := by rw [Tryz.underlying109]
theorem lawPrm : Keyed Tryz.prog 109 := Keyed.of_law (deep_law_laid laidOut10 (m := 3) (by omega) rowPrm (by kernel_rfl) widePrm)
theorem deepPrm : Tryz.prog.keyType 109 = true := by kernel_rfl
theorem cellsPrm : Tryz.prog.cellsOf 109 = 2 := by kernel_rfl
theorem cellsStr : Tryz.prog.cellsOf 9 = 1 := by kernel_rfl
/-- what a parameter reads as when it is a key -/
def pkey (p : F) : Lit := .string (keyBytes [.string p.1.data.toList, .string p.2.data.toList])
def Sml (p : F) : Prop := p.1.size ≤ maxLen ∧ p.2.size ≤ maxLen
theorem formedPrm {c0 c1 : Value} : (Value.agg #[c0, c1]).formed Tryz.prog 109 = true := by simp [Value.formed, Tryz.underlying109, cellsPrm]
theorem pkey_of {p : F} (h : Sml p) : keyOf Tryz.prog 109 (.agg #[.string p.1, .string p.2]) = some (pkey p) := by
  obtain ⟨m, hm⟩ : ∃ m, Tryz.prog.types.size = m + 1 := Nat.exists_eq_succ_of_ne_zero (Nat.ne_zero_of_lt rowPrm)
  unfold keyOf
  rw [Tryz.underlying109]
  simp only [deepPrm, formedPrm, Bool.and_self, if_true, hm]
  simp [Program.keyLits, Tryz.underlying109, Tryz.underlying9, Value.cells, cellsPrm, cellsStr, h.1, h.2, pkey]
theorem pkey_inj {p q : F} (hp : Sml p) (hq : Sml q) (h : pkey p = pkey q) : p = q := by
  have := lawPrm.inj (pkey_of hp) (h ▸ pkey_of hq)
  simp only [Value.agg.injEq, Array.mk.injEq, List.cons.injEq, Value.string.injEq, and_true] at this
  exact Prod.ext this.1 this.2
theorem pkey_key {p : F} (hp : Sml p) : WideAt.IsKeyLit (pkey p) := lawPrm.key (pkey_of hp)
/-- block b is a set of at most n parameters: those of which S says so -/
def PSet (w : World) (b n : Nat) (S : F → Prop) : Prop :=
  ∃ D : DataW Unit, w.ownsMap Tryz.prog 109 (plainElem Tryz.prog 4) b n D ∧ ∀ kl, Maps.has D kl = true ↔ ∃ p, S p ∧ Sml p ∧ pkey p = kl
section
variable {w w' : World} {b n : Nat} {S : F → Prop}
theorem PSet.made (w : World) : PSet (w.alloc (.map #[] 0)) w.heap.size 0 (fun _ => False) :=
  ⟨_, World.ownsMap_made _ _ _ _, fun kl => by simp [Maps.has]⟩
theorem PSet.kept {row : Option Nat} (h : PSet w b n S) (hg : w.grownBy w' row) (hne : some b ≠ row) : PSet w' b n S := by
  obtain ⟨D, h1, h2⟩ := h
  exact ⟨D, h1.kept hg hne, h2⟩
theorem PSet.below {B : Nat} (h : PSet w b n S) (hb : Below B w w') (hB : b < B) : PSet w' b n S := by
  obtain ⟨D, ⟨es, clock, h1, r⟩, h2⟩ := h
  exact ⟨D, ⟨es, clock, (hb.block b hB).trans h1, r⟩, h2⟩
theorem PSet.lt (h : PSet w b n S) : b < w.heap.size := by obtain ⟨D, h1, h2⟩ := h; exact h1.lt
theorem PSet.mono {m : Nat} (h : PSet w b n S) (hm : n ≤ m) : PSet w b m S := by obtain ⟨D, h1, h2⟩ := h; exact ⟨D, h1.mono hm, h2⟩
theorem PSet.iff {T : F → Prop} (h : PSet w b n S) (hT : ∀ p, S p ↔ T p) : PSet w b n T := by
  obtain ⟨D, h1, h2⟩ := h
  refine ⟨D, h1, fun kl => ?_⟩
  rw [h2]
  constructor
  · rintro ⟨p, h3, h4⟩; exact ⟨p, (hT p).1 h3, h4⟩
  · rintro ⟨p, h3, h4⟩; exact ⟨p, (hT p).2 h3, h4⟩
theorem has_put10 {D : DataW Unit} {p : F} {d : DataW Unit} (hD : IsMap D) (hp : Sml p) (h : ∀ kl, Maps.has D kl = true ↔ ∃ p, S p ∧ Sml p ∧ pkey p = kl) :
    ∀ kl, Maps.has (D.put (pkey p) d) kl = true ↔ ∃ q, (S q ∨ q = p) ∧ Sml q ∧ pkey q = kl := by
  intro kl
  by_cases hk : kl = pkey p
  · subst hk
    exact ⟨fun _ => ⟨p, .inr rfl, hp, rfl⟩, fun _ => has_put_same hD (pkey_key hp) d⟩
  · rw [has_put_other hk, h]
    constructor
    · rintro ⟨q, h1, h2, h3⟩; exact ⟨q, .inl h1, h2, h3⟩
    · rintro ⟨q, h1 | rfl, h2, h3⟩
      · exact ⟨q, h1, h2, h3⟩
      · exact absurd h3.symm hk
theorem has_del10 {D : DataW Unit} {p : F} (hp : Sml p) (h : ∀ kl, Maps.has D kl = true ↔ ∃ p, S p ∧ Sml p ∧ pkey p = kl) :
    ∀ kl, Maps.has (D.del (pkey p)) kl = true ↔ ∃ q, (S q ∧ q ≠ p) ∧ Sml q ∧ pkey q = kl := by
  intro kl
  by_cases hk : kl = pkey p
  · subst hk
    rw [has_del_same]
    constructor
    · intro e; cases e
    · rintro ⟨q, ⟨_, hne⟩, h2, h3⟩; exact absurd (pkey_inj h2 hp h3) hne
  · rw [has_del_other hk, h]
    constructor
    · rintro ⟨q, h1, h2, h3⟩; exact ⟨q, ⟨h1, fun e => hk (by rw [← h3, e])⟩, h2, h3⟩
    · rintro ⟨q, ⟨h1, _⟩, h2, h3⟩; exact ⟨q, h1, h2, h3⟩
theorem size_zero10 {D : DataW Unit} (hD : w.ownsMap Tryz.prog 109 (plainElem Tryz.prog 4) b n D) (h : ∀ kl, Maps.has D kl = true ↔ ∃ p, S p ∧ Sml p ∧ pkey p = kl) : Maps.size D = 0 ↔ ∀ p, Sml p → ¬ S p := by
  obtain ⟨es, clock, hb, F, hs, rfl⟩ := hD
  have hks := Maps.fit_keys F
  generalize hl : (es.toList.map (Go.WideElems.rg Tryz.prog 109 (plainElem (H := Unit) Tryz.prog 4))).foldr DataW.insert [] = l at h
  have hk : ∀ p ∈ l, WideAt.IsKeyLit p.1 := fun p hp => by
    rw [← hl] at hp
    obtain ⟨v, hv⟩ := hks p ((Go.WideShapes.sorted_perm _).mem_iff.1 hp)
    exact lawPrm.key hv
  have hs : Maps.size (DataW.map l) = l.length := rfl
  rw [hs]
  constructor
  · intro h0 p hp hS
    have := (h (pkey p)).2 ⟨p, hS, hp, rfl⟩
    rw [List.length_eq_zero_iff] at h0
    subst h0
    simp [Maps.has] at this
  · intro hn
    cases l with
    | nil => rfl
    | cons x r =>
      exfalso
      have h1 : Maps.has (DataW.map (x :: r)) x.1 = true := by
        rw [Maps.has_eq, List.any_cons, WideAt.sameKey_self (hk x (by simp))]; rfl
      obtain ⟨p, hS, hp, _⟩ := (h x.1).1 h1
      exact hn p hp hS
/-- a store: the call's 'm[p] = true' -/
theorem PSet.put {p : F} {m : Nat} (h : PSet w b n S) (hp : Sml p) (hn : n < maxLen) (hm : n + 1 ≤ m) :
    ∃ w', (Instr.mapUpdate 171 (.map (some b)) (.agg #[.string p.1, .string p.2]) (.bool true)).run Tryz.prog w = .ok () w' ∧ PSet w' b m (fun q => S q ∨ q = p) ∧ w.grownBy w' (some b) := by
  obtain ⟨D, h1, h2⟩ := h
  obtain ⟨w', r1, r2, r3⟩ := h1.update lawPrm Tryz.underlying171 hn (pkey_of hp) (plainElem_bool Tryz.underlying4 true)
  exact ⟨w', r1, ⟨_, r2.mono hm, has_put10 h1.isMap hp h2⟩, r3⟩
end
theorem wpList_put10 {w : World} {ops : Array Oper} {rest : List Oper} {o : Oper} {a : Act} {Q : Exit → Act → World → Prop} {b n m : Nat} {S : F → Prop} {p : F}
    (hg : o.guard = none) (mm x v : Operand) (hop : o.op = Op.mapUpdate 171 mm x v) (h : PSet w b n S) (hp : Sml p) (hn : n < maxLen) (hm : n + 1 ≤ m)
    (em : a.eval mm = .map (some b)) (ex : a.eval x = .agg #[.string p.1, .string p.2]) (ev : a.eval v = .bool true)
    (hK : ∀ w', PSet w' b m (fun q => S q ∨ q = p) → w.grownBy w' (some b) → wpList Tryz.prog ops Q rest (a.put o.dst undef) w') : wpList Tryz.prog ops Q (o :: rest) a w := by
  obtain ⟨D, h1, h2⟩ := h
  refine wpList_mapUpdate_own w hg mm x v 171 hop 109 4 lawPrm Tryz.underlying171 _ b n D em h1 hn _ _ _ ex ev (pkey_of hp) _ [] (plainElem_bool Tryz.underlying4 true) ?_
  intro w' r2 r3
  exact hK w' ⟨_, r2.mono hm, has_put10 h1.isMap hp h2⟩ r3
theorem wpList_del10 {w : World} {ops : Array Oper} {rest : List Oper} {o : Oper} {a : Act} {Q : Exit → Act → World → Prop} {b n : Nat} {S : F → Prop} {p : F}
    (hg : o.guard = none) (mm x : Operand) (hop : o.op = Op.call { callee := Callee.builtin Builtin.delete, args := #[mm, x], argTypes := #[171, 109] }) (h : PSet w b n S) (hp : Sml p)
    (em : a.eval mm = .map (some b)) (ex : a.eval x = .agg #[.string p.1, .string p.2])
    (hK : ∀ w', PSet w' b n (fun q => S q ∧ q ≠ p) → w.grownBy w' (some b) → wpList Tryz.prog ops Q rest (a.put o.dst (.tuple #[])) w') : wpList Tryz.prog ops Q (o :: rest) a w := by
  obtain ⟨D, h1, h2⟩ := h
  refine wpList_delete_own w hg mm x 171 109 hop 4 lawPrm Tryz.underlying171 _ b n D em h1 _ _ ex (pkey_of hp) ?_
  intro w' r2 r3
  exact hK w' ⟨_, r2, has_del10 hp h2⟩ r3.grown
theorem wpList_len10 {w : World} {ops : Array Oper} {rest : List Oper} {o : Oper} {a : Act} {Q : Exit → Act → World → Prop} {b n : Nat} {S : F → Prop}
    (hg : o.guard = none) (mm : Operand) (hop : o.op = Op.call { callee := Callee.builtin Builtin.len, args := #[mm], argTypes := #[171] }) (h : PSet w b n S)
    (em : a.eval mm = .map (some b)) (hK : ∀ k : Nat, (k = 0 ↔ ∀ p, Sml p → ¬ S p) → wpList Tryz.prog ops Q rest (a.put o.dst (.int .i64 k)) w) : wpList Tryz.prog ops Q (o :: rest) a w := by
  obtain ⟨D, h1, h2⟩ := h
  refine wpList_len_own w hg mm 171 hop 109 4 Tryz.underlying171 _ b n D em h1 ?_
  exact hK _ (size_zero10 h1 h2)
theorem makeHint10 (k : Nat) (w : World) : (Instr.makeMap 171 (some (.int .i64 (k : Int)))).run Tryz.prog w = .ok (.map (some w.heap.size)) (w.alloc (.map #[] 0)) := by
  simp [Instr.makeMap, run_underlying Tryz.underlying171, asInt, asIntOf, Result.andThen]
end
end Go.Proofs.YtklfpkaemnhdhaaGreatDoor.Asc
