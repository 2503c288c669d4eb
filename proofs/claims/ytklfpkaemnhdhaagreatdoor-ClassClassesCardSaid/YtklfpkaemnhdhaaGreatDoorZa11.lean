/- Merged texts: ClsSpec3 ClsSpec5 ClsSpec6 ClsSpec8 AccRef4 RnkRef SelRef AccKN MedSet LisApp. -/
import Derived.Test.YtklfpkaemnhdhaaGreatDoorZa02
import Derived.Test.YtklfpkaemnhdhaaGreatDoorZa04
import Derived.Test.YtklfpkaemnhdhaaGreatDoorZa06
import Derived.Test.YtklfpkaemnhdhaaGreatDoorZa07
import Derived.Test.YtklfpkaemnhdhaaGreatDoorZa08
import Derived.Test.YtklfpkaemnhdhaaGreatDoorZa09
import Derived.Test.YtklfpkaemnhdhaaGreatDoorZa10
import Derived.DeepKeys4
import Derived.Maps.OwnSet
set_option linter.unusedVariables false
set_option linter.unusedSimpArgs false
set_option maxRecDepth 100000
namespace Go.Proofs.YtklfpkaemnhdhaaGreatDoor.Asc
section
theorem get_app18 {nm : ByteArray} {L M : List F} : getL nm (L ++ M) = getL nm L ++ getL nm M := by unfold getL; rw [List.filter_append, List.map_append]
theorem get_one18 {nm : ByteArray} {f : F} : getL nm [f] = if nmd nm f = true then [f.2] else [] := by
  unfold getL
  rw [List.filter_cons, List.filter_nil]
  split <;> rfl
/-- names that fold alike -/
theorem nmd_fold {n m : ByteArray} (h : foldL n.data.toList m.data.toList = true) (f : F) : nmd n f = nmd m f := by
  unfold nmd
  cases e : foldL f.1.data.toList m.data.toList with
  | true => exact fold_trans e (by rw [fold_symm]; exact h)
  | false =>
    cases e2 : foldL f.1.data.toList n.data.toList with
    | false => rfl
    | true => rw [fold_trans e2 h] at e; cases e
theorem get_rem18 {n m : ByteArray} {L : List F} (h : foldL n.data.toList m.data.toList = true) : getL n (remL m L) = [] := by
  unfold getL remL
  rw [List.filter_filter]
  have : (L.filter fun p => nmd n p && !nmd m p) = [] := by
    rw [List.filter_eq_nil_iff]
    intro p _
    rw [nmd_fold h p]
    simp
  rw [this]; rfl
theorem any_get18 {nm : ByteArray} {L : List F} : L.any (nmd nm) = !(getL nm L).isEmpty := by
  unfold getL
  induction L with
  | nil => rfl
  | cons p L ih =>
    rw [List.any_cons, List.filter_cons, ih]
    cases nmd nm p with
    | true => rfl
    | false => rfl
/-- two lists of fields that say the same under a name -/
theorem acc_get {x : AX} {L M : List F} (h1 : kindN x.1 = 0 → allL x.1 L = allL x.1 M) (h2 : kindN x.1 ≠ 0 → allL (nameK (kindN x.1)) L = allL (nameK (kindN x.1)) M ∧ L.any (nmd (nameK (kindN x.1))) = M.any (nmd (nameK (kindN x.1)))) : accS x L = accS x M := by
  refine acc_congr h1 (fun hk v _ => ?_)
  obtain ⟨a1, a2⟩ := h2 hk
  have ho : prefsO (kindN x.1) L = prefsO (kindN x.1) M := by unfold prefsO; rw [a2]
  have hp : prefsV (kindN x.1) L = prefsV (kindN x.1) M := by unfold prefsV prefsL; rw [ho, a1]
  unfold qlS
  rw [ho, hp]
theorem acc_gets {x : AX} {L M : List F} (h : ∀ nm : ByteArray, foldL x.1.data.toList nm.data.toList = true → allL nm L = allL nm M ∧ L.any (nmd nm) = M.any (nmd nm)) : accS x L = accS x M :=
  acc_get (fun _ => (h x.1 (fold_self _)).1) (fun hk => h _ (kind_fold hk))
def textQ (a b : List UInt8) : List UInt8 := 9 :: (a ++ [32]) ++ 44 :: (32 :: (b ++ [32]))
theorem end_blanks18 {a : List UInt8} (h : endF a.length false a = false) : endF (9 :: (a ++ [32])).length false (9 :: (a ++ [32])) = false := by
  show endF ((a ++ [32]).length + 1) false (9 :: (a ++ [32])) = false
  have e : (a ++ [(32 : UInt8)]).length = a.length + 1 := by simp
  rw [endF_cons, if_neg (by simp), if_neg (by decide), e]
  exact end_last (by decide) (by decide) a.length false a (Nat.le_refl _) h
theorem split_lines18 {a b : List UInt8} (h : endF a.length false a = false) : splitL (textQ a b) = (splitL a ++ splitL b).take 64 := by
  unfold textQ
  rw [split_two (end_blanks18 h), mem_front (by decide), mem_back (by decide), mem_front (by decide), mem_back (by decide)]
  unfold splitL
  exact (take_two _ _ 64).symm
def linesP (L : List F) (n a b : ByteArray) : List F := remL n L ++ [(n, a), (n, b)]
def linesQ (L : List F) (n m t : ByteArray) : List F := (m, t) :: remL n L
theorem lines_get {L : List F} {n m a b t nm : ByteArray} (h : endF a.data.toList.length false a.data.toList = false) (ht : t.data.toList = textQ a.data.toList b.data.toList) (hm : foldL m.data.toList n.data.toList = true) :
    allL nm (linesP L n a b) = allL nm (linesQ L n m t) ∧ (linesP L n a b).any (nmd nm) = (linesQ L n m t).any (nmd nm) := by
  have hmn : nmd nm (m, t) = nmd nm (n, a) := by
    have e1 : nmd nm (m, t) = foldL m.data.toList nm.data.toList := rfl
    have e2 : nmd nm (n, a) = foldL n.data.toList nm.data.toList := rfl
    rw [e1, e2]
    cases e : foldL n.data.toList nm.data.toList with
    | true => exact fold_trans hm e
    | false =>
      cases e3 : foldL m.data.toList nm.data.toList with
      | false => rfl
      | true => rw [fold_trans (by rw [fold_symm]; exact hm) e3] at e; cases e
  have hnb : nmd nm (n, b) = nmd nm (n, a) := rfl
  have gp : getL nm (linesP L n a b) = getL nm (remL n L) ++ (if nmd nm (n, a) = true then [a, b] else []) := by
    unfold linesP
    rw [get_app18, show [(n, a), (n, b)] = [(n, a)] ++ [(n, b)] from rfl, get_app18, get_one18, get_one18, hnb]
    split <;> simp
  have gq : getL nm (linesQ L n m t) = (if nmd nm (n, a) = true then [t] else []) ++ getL nm (remL n L) := by
    unfold linesQ
    rw [show (m, t) :: remL n L = [(m, t)] ++ remL n L from rfl, get_app18, get_one18, hmn]
  cases e : nmd nm (n, a) with
  | false =>
    rw [e] at gp gq
    simp only [Bool.false_eq_true, if_false, List.append_nil, List.nil_append] at gp gq
    refine ⟨by unfold allL; rw [gp, gq], by rw [any_get18, any_get18, gp, gq]⟩
  | true =>
    have hr : getL nm (remL n L) = [] := get_rem18 (by
      have e2 : nmd nm (n, a) = foldL n.data.toList nm.data.toList := rfl
      rw [fold_symm, ← e2]; exact e)
    rw [e, hr] at gp gq
    simp only [if_true, List.append_nil, List.nil_append] at gp gq
    refine ⟨?_, by rw [any_get18, any_get18, gp, gq]; rfl⟩
    unfold allL allF
    rw [gp, gq]
    simp only [List.flatMap_cons, List.flatMap_nil, List.append_nil]
    rw [ht, split_lines18 h, List.take_take, Nat.min_self]
theorem lines_same {X : List AX} {L : List F} {n m a b t : ByteArray} {st : Bool} (hv : validX X = true) (h : endF a.data.toList.length false a.data.toList = false) (ht : t.data.toList = textQ a.data.toList b.data.toList) (hm : foldL m.data.toList n.data.toList = true) : sameC X (linesP L n a b) (linesQ L n m t) st = true :=
  same_rows hv (fun x _ => acc_gets (fun nm _ => lines_get h ht hm))
theorem kindN_rng (n : ByteArray) : 0 ≤ kindN n ∧ kindN n ≤ 4 := by
  unfold kindN
  split
  · omega
  · split
    · omega
    · split
      · omega
      · split <;> omega
end
section
def chkQ (n : Nat) : Bool := ((lowB (UInt8.ofNat n) == 48) == (UInt8.ofNat n == 48)) && ((lowB (UInt8.ofNat n) == 49) == (UInt8.ofNat n == 49)) && ((lowB (UInt8.ofNat n) == 46) == (UInt8.ofNat n == 46)) && ((lowB (UInt8.ofNat n) == 44) == (UInt8.ofNat n == 44)) && (digitI (lowB (UInt8.ofNat n)).toNat == digitI (n : Int)) && (!digitI (n : Int) || lowB (UInt8.ofNat n) == UInt8.ofNat n)
theorem chkQ_all : ∀ x : Fin 256, chkQ x.1 = true := by decide +kernel
theorem low_q (c : UInt8) : (lowB c = 48 ↔ c = 48) ∧ (lowB c = 49 ↔ c = 49) ∧ (lowB c = 46 ↔ c = 46) ∧ (lowB c = 44 ↔ c = 44) ∧ digitI (lowB c).toNat = digitI c.toNat ∧ (digitI c.toNat = true → lowB c = c) := by
  have k := chkQ_all ⟨c.toNat, c.toNat_lt⟩
  unfold chkQ at k
  simp only [UInt8.ofNat_toNat, Bool.and_eq_true, beq_iff_eq, Bool.or_eq_true, Bool.not_eq_true'] at k
  obtain ⟨⟨⟨⟨⟨k1, k2⟩, k3⟩, k4⟩, k5⟩, k6⟩ := k
  refine ⟨by rw [← beq_iff_eq, k1, beq_iff_eq], by rw [← beq_iff_eq, k2, beq_iff_eq], by rw [← beq_iff_eq, k3, beq_iff_eq], by rw [← beq_iff_eq, k4, beq_iff_eq], k5, fun h => ?_⟩
  rcases k6 with k6 | k6
  · rw [k6] at h; cases h
  · exact k6
theorem casep44 : CaSep 44 := fun c => (low_q c).2.2.2.1
theorem qvD_low : ∀ (l : List UInt8) (q w : Int), qvD q w (lowL l) = qvD q w l
  | [], _, _ => rfl
  | c :: r, q, w => by
    rw [lowL_cons]
    unfold qvD
    rw [(low_q c).2.2.2.2.1]
    by_cases h : digitI c.toNat = true
    · rw [if_pos h, if_pos h, (low_q c).2.2.2.2.2 h, qvD_low r]
    · rw [if_neg h, if_neg h]
theorem qv_low (l : List UInt8) : qvL (lowL l) = qvL l := by
  cases l with
  | nil => rfl
  | cons a r =>
    rw [lowL_cons]
    unfold qvL
    simp only [lowL_len2]
    have ha : (lowB a = 48 ∨ lowB a = 49) ↔ (a = 48 ∨ a = 49) := by rw [(low_q a).1, (low_q a).2.1]
    by_cases h : 5 < r.length + 1 ∨ ¬ (a = 48 ∨ a = 49)
    · rw [if_pos h, if_pos (by rw [ha]; exact h)]
    · rw [if_neg h, if_neg (by rw [ha]; exact h)]
      have hae : lowB a = a := by
        have : a = 48 ∨ a = 49 := by
          rcases Decidable.em (a = 48 ∨ a = 49) with q | q
          · exact q
          · exact absurd (.inr q) h
        rcases this with rfl | rfl <;> decide
      cases r with
      | nil =>
        show qvEnd (some (((lowB a).toNat - 48) * 1000)) = qvEnd (some (((a.toNat : Int) - 48) * 1000))
        rw [hae]
      | cons p ds =>
        rw [lowL_cons]
        simp only
        by_cases hp : p ≠ 46
        · rw [if_pos hp, if_pos (fun e => hp ((low_q p).2.2.1.1 e))]
        · rw [if_neg hp, if_neg (fun e => e ((low_q p).2.2.1.2 (Decidable.not_not.1 hp))), hae, qvD_low]
theorem isQ_low (p : F) : isQ (lowP p) = isQ p := rfl
theorem atQ_low : ∀ L : List F, atQ (L.map lowP) = atQ L
  | [] => rfl
  | p :: L => by
    have ih := atQ_low L
    unfold atQ at ih ⊢
    rw [List.map_cons, List.takeWhile_cons, List.takeWhile_cons, isQ_low]
    cases isQ p with
    | true => rfl
    | false => simp only [Bool.not_false, if_true, List.length_cons]; rw [ih]
theorem qualP_low (L : List F) : qualP (L.map lowP) = qualP L := by
  unfold qualP
  by_cases h : atQ L < L.length
  · rw [dif_pos h, dif_pos (by rw [atQ_low, List.length_map]; exact h)]
    have e : (L.map lowP)[atQ (L.map lowP)]'(by rw [atQ_low, List.length_map]; exact h) = lowP (L[atQ L]'h) := by
      rw [List.getElem_map]
      congr 1
      simp only [atQ_low]
    rw [e]
    show qvL (bs (lowL (L[atQ L]'h).2.data.toList)).data.toList = _
    rw [bs_toList, qv_low]
  · rw [dif_neg h, dif_neg (by rw [atQ_low, List.length_map]; exact h)]
theorem range_low18 (v : List UInt8) : rangeL (lowL v) = (rangeL v).map fun m => (m.1, m.2.1, m.2.2.map lowP) := by
  unfold rangeL
  rw [parL_low]
  cases parL v with
  | none => rfl
  | some m =>
    obtain ⟨w, L⟩ := m
    simp only [Option.map_some]
    rw [type_low]
    cases typeL w with
    | none => rfl
    | some t => rfl
theorem text_range {a b : ByteArray} {v : List UInt8} {M P : List F} (hr : rangeL v = some (a, b, M)) (gP : ∀ p ∈ P, GoodP p) : rangeL (fmtPB (a ++ (⟨#[47]⟩ : ByteArray) ++ b) P).data.toList = some (a, b, P) := by
  obtain ⟨⟨t1, t2, t3, t4, t5⟩, _, _, _⟩ := range_facts hr
  have hrl : (fmtPB (a ++ (⟨#[47]⟩ : ByteArray) ++ b) P).data.toList = fmtPL (a.data.toList ++ 47 :: b.data.toList) P := by
    show fmtPL (a ++ (⟨#[47]⟩ : ByteArray) ++ b).data.toList P = _
    congr 1
    simp [ByteArray.data_append]
  rw [hrl]
  have h0 := par_back2 (media_piece t1 t2) (media_trim t1 t2) (by simp) gP
  unfold rangeL
  rw [h0]; simp only
  rw [type_back t1 t2 t3 t4 t5]
theorem prmIn_low (p : F) (T : List F) : prmIn (lowP p) T = prmIn p T := by
  unfold prmIn
  congr 1
  funext t
  unfold prmOk lowP
  simp only [bs_toList]
  congr 1
  unfold foldL
  rw [low_low]
theorem matchI_low (a b : ByteArray) (P : List F) (t : M) : matchI (a, b, P.map lowP) t = matchI (a, b, P) t := by
  unfold matchI
  simp only [List.all_map, List.length_map]
  have : (P.all ((fun p => prmIn p t.2.2) ∘ lowP)) = P.all fun p => prmIn p t.2.2 := by
    congr 1
    funext p
    exact prmIn_low p t.2.2
  rw [this]
/-- preferences that say the same of every value -/
def likeQ (k : Int) (p p' : ByteArray × Int) : Prop := p.2 = p'.2 ∧ ∀ v : List UInt8, matchP k p.1.data.toList v = matchP k p'.1.data.toList v
theorem likeQ.refl (k : Int) (p : ByteArray × Int) : likeQ k p p := ⟨rfl, fun _ => rfl⟩
def likeO (k : Int) : Option (ByteArray × Int) → Option (ByteArray × Int) → Prop
  | none, none => True
  | some p, some p' => likeQ k p p'
  | _, _ => False
theorem likeO_refl (k : Int) (o : Option (ByteArray × Int)) : likeO k o o := by
  cases o with
  | none => trivial
  | some p => exact likeQ.refl _ _
theorem good_low {p : F} (h : GoodP p) : GoodP (lowP p) := by
  obtain ⟨h1, h2, h3⟩ := h
  refine ⟨h1, h2, ?_⟩
  show textL (bs (lowL p.2.data.toList)).data.toList = true
  rw [bs_toList, textL_low]; exact h3
theorem mem_low18 (k : Int) (m : List UInt8) : likeO k (memP k m) (memP k (lowL m)) := by
  unfold memP
  rw [parL_low]
  cases hp : parL m with
  | none => trivial
  | some y =>
    obtain ⟨v, L⟩ := y
    simp only [Option.map_some]
    rw [qualP_low]
    cases hq : qualP L with
    | none => trivial
    | some q =>
      simp only
      by_cases hk : k = 1
      · subst hk
        rw [if_pos rfl, if_pos rfl, range_low18]
        cases hr : rangeL v with
        | none => trivial
        | some z =>
          obtain ⟨a, b, M⟩ := z
          simp only [Option.map_some]
          have gL := (par_facts hp).1
          have gP : ∀ p ∈ L.take (atQ L), GoodP p := fun p hpp => gL p (List.mem_of_mem_take hpp)
          have gP2 : ∀ p ∈ (L.take (atQ L)).map lowP, GoodP p := fun p hpp => by
            obtain ⟨p0, h0, rfl⟩ := List.mem_map.1 hpp
            exact good_low (gP p0 h0)
          refine ⟨rfl, fun w => ?_⟩
          rw [atQ_low, ← List.map_take]
          unfold matchP
          rw [if_pos rfl, if_pos rfl, text_range hr gP, text_range hr gP2]
          cases mediaL w with
          | none => rfl
          | some t => simp only; rw [matchI_low]
      · rw [if_neg hk, if_neg hk, can_low, tokL_low, range_low, atQ_low]
        exact likeO_refl _ _
def LikeL (k : Int) : List (ByteArray × Int) → List (ByteArray × Int) → Prop
  | [], [] => True
  | p :: A, p' :: B => likeQ k p p' ∧ LikeL k A B
  | _, _ => False
theorem like_best {k : Int} {v : List UInt8} : ∀ {A B : List (ByteArray × Int)}, LikeL k A B → ∀ st, bestQ k v A st = bestQ k v B st
  | [], [], _, st => rfl
  | p :: A, p' :: B, h, st => by
    show bestQ k v A (stepQ14 k v st p) = bestQ k v B (stepQ14 k v st p')
    have : stepQ14 k v st p = stepQ14 k v st p' := by
      unfold stepQ14
      rw [h.1.2 v, h.1.1]
    rw [this]
    exact like_best h.2 _
  | [], _ :: _, h, _ => h.elim
  | _ :: _, [], h, _ => h.elim
theorem like_mems (k : Int) : ∀ ms : List (List UInt8), LikeL k (ms.filterMap (memP k)) ((ms.map lowL).filterMap (memP k))
  | [] => trivial
  | m :: ms => by
    have ih := like_mems k ms
    have h := mem_low18 k m
    rw [List.map_cons, List.filterMap_cons, List.filterMap_cons]
    revert h
    cases memP k m with
    | none =>
      cases memP k (lowL m) with
      | none => intro _; exact ih
      | some p => intro h; exact h.elim
    | some p =>
      cases memP k (lowL m) with
      | none => intro h; exact h.elim
      | some p' => intro h; exact ⟨h, ih⟩
theorem memL_low : ∀ ps : List (List UInt8), memL (ps.map lowL) = (memL ps).map lowL
  | [] => rfl
  | p :: ps => by
    have ih := memL_low ps
    unfold memL at ih ⊢
    rw [List.map_cons, List.map_cons, List.map_cons, List.filter_cons, List.filter_cons, ih, trim_low]
    have he : (lowL (trimL p)).isEmpty = (trimL p).isEmpty := by
      cases h : trimL p with
      | nil => rfl
      | cons c r => rfl
    rw [he]
    cases (trimL p).isEmpty <;> rfl
theorem split_low (l : List UInt8) : splitL (lowL l) = (splitL l).map lowL := by
  unfold splitL
  rw [cutL_low casep44, memL_low, List.map_take]
theorem kindN_fold {a b : ByteArray} (h : foldL a.data.toList b.data.toList = true) : kindN a = kindN b := by
  have key : ∀ c : List UInt8, foldL a.data.toList c = foldL b.data.toList c := fun c => by
    cases e : foldL b.data.toList c with
    | true => exact fold_trans h e
    | false =>
      cases e2 : foldL a.data.toList c with
      | false => rfl
      | true => rw [fold_trans (by rw [fold_symm]; exact h) e2] at e; cases e
  unfold kindN
  rw [key, key, key, key]
theorem kindN_name {k : Int} (h1 : 1 ≤ k) (h4 : k ≤ 4) : kindN (nameK k) = k := by
  have : k = 1 ∨ k = 2 ∨ k = 3 ∨ k = 4 := by omega
  rcases this with rfl | rfl | rfl | rfl <;> decide
def lowF (f : F) : F := if kindN f.1 ≠ 0 then (f.1, bs (lowL f.2.data.toList)) else f
theorem lowF_name (f : F) : (lowF f).1 = f.1 := by unfold lowF; split <;> rfl
theorem nmd_low (nm : ByteArray) (f : F) : nmd nm (lowF f) = nmd nm f := by unfold nmd; rw [lowF_name]
theorem any_low (nm : ByteArray) (L : List F) : (L.map lowF).any (nmd nm) = L.any (nmd nm) := by
  rw [List.any_map]
  congr 1
  funext f
  exact nmd_low nm f
theorem get_low (nm : ByteArray) : ∀ L : List F, getL nm (L.map lowF) = (getL nm L).map fun v => if kindN nm ≠ 0 then bs (lowL v.data.toList) else v
  | [] => rfl
  | f :: L => by
    have ih := get_low nm L
    unfold getL at ih ⊢
    rw [List.map_cons, List.filter_cons, List.filter_cons, nmd_low]
    cases h : nmd nm f with
    | false => simp only [Bool.false_eq_true, if_false]; exact ih
    | true =>
      simp only [if_true, List.map_cons]
      rw [ih]
      congr 1
      have hk : kindN f.1 = kindN nm := kindN_fold h
      unfold lowF
      rw [hk]
      split <;> rfl
theorem all_low {nm : ByteArray} {L : List F} (h : kindN nm ≠ 0) : allL nm (L.map lowF) = (allL nm L).map lowL := by
  unfold allL
  rw [get_low, List.map_take]
  congr 1
  unfold allF
  rw [List.flatMap_map, List.map_flatMap]
  congr 1
  funext v
  rw [if_pos h, bs_toList, split_low]
theorem acc_low (x : AX) (L : List F) : accS x (L.map lowF) = accS x L := by
  by_cases hk : kindN x.1 = 0
  · refine acc_congr (fun _ => ?_) (fun h => absurd hk h)
    unfold allL
    rw [get_low]
    congr 2
    have : (fun v : ByteArray => if kindN x.1 ≠ 0 then bs (lowL v.data.toList) else v) = id := by
      funext v; rw [if_neg (fun h => h hk)]; rfl
    rw [this, List.map_id]
  · have hr := kindN_rng x.1
    have hn : kindN (nameK (kindN x.1)) ≠ 0 := by rw [kindN_name (by omega) (by omega)]; exact hk
    refine acc_congr (fun h => absurd h hk) (fun _ v _ => ?_)
    unfold qlS
    have ho : prefsO (kindN x.1) (L.map lowF) = prefsO (kindN x.1) L := by unfold prefsO; rw [any_low]
    rw [ho]
    unfold qualR
    cases e : prefsO (kindN x.1) L with
    | false => rfl
    | true =>
      rw [if_pos rfl, if_pos rfl]
      have h1 : prefsV (kindN x.1) L = (allL (nameK (kindN x.1)) L).filterMap (memP (kindN x.1)) := by unfold prefsV prefsL; rw [if_pos e]
      have h2 : prefsV (kindN x.1) (L.map lowF) = ((allL (nameK (kindN x.1)) L).map lowL).filterMap (memP (kindN x.1)) := by unfold prefsV prefsL; rw [if_pos (ho.trans e), all_low hn]
      rw [h1, h2, ← like_best (like_mems (kindN x.1) _)]
theorem cases_same {X : List AX} {L : List F} {st : Bool} (hv : validX X = true) : sameC X L (L.map lowF) st = true :=
  same_rows hv (fun x _ => (acc_low x L).symm)
end
section
theorem beq_str {a b : ByteArray} : (a.toList == b.toList) = decide (a = b) := by
  have := ne_toList a b
  cases h : (a.toList == b.toList) with
  | true => exact (decide_eq_true (str_eq h)).symm
  | false =>
    rw [h] at this
    exact (decide_eq_false (of_decide_eq_true this.symm)).symm
end
section
/-- a text behind which a piece goes on as if it began there -/
def Goes (sep : UInt8) (a : List UInt8) : Prop := ∀ p, Piece sep p → Piece sep (a ++ p)
theorem Goes.nil (sep : UInt8) : Goes sep [] := fun p h => h
theorem Goes.plain {sep : UInt8} {a : List UInt8} (h : ∀ c ∈ a, c ≠ 34 ∧ c ≠ sep) : Goes sep a := fun p hp => Piece.plain h hp
theorem Goes.tok {v : List UInt8} (h : tokL v = true) : Goes 44 v := Goes.plain fun c hc => ⟨(tok_not (tok_byte h c hc)).1, (tok_not (tok_byte h c hc)).2.2.2.1⟩
end
section
open Go.RowKit
theorem matchP_acc {r v : List UInt8} {m1 m2 : M} {ok is : Bool} (h1 : ofM (rangeL r) = m1) (h2 : (rangeL r).isSome = ok) (h3 : ofM (mediaL v) = m2) (h4 : (mediaL v).isSome = is) : matchP 1 r v = if (ok && is) = true then matchI m1 m2 else -1 := by
  unfold matchP
  rw [if_pos rfl, ← h2, ← h4, ← h1, ← h3]
  cases rangeL r with
  | none => rfl
  | some a =>
    cases mediaL v with
    | none => rfl
    | some b => rfl
theorem matchP_lan (r v : List UInt8) : matchP 2 r v = matchT r v := by unfold matchP; rw [if_neg (by omega), if_pos rfl]
theorem matchP_cod {k : Int} (h : k = 3 ∨ k = 4) (r v : List UInt8) : matchP k r v = if (tokL r && tokL v && decide (v ≠ [42])) = true then matchC k r v else -1 := by
  unfold matchP; rw [if_neg (by omega), if_neg (by omega), if_pos h]
theorem matchP_no {k : Int} (h1 : ¬ k = 1) (h2 : ¬ k = 2) (h3 : ¬ k = 3) (h4 : ¬ k = 4) (r v : List UInt8) : matchP k r v = -1 := by
  unfold matchP; rw [if_neg h1, if_neg h2, if_neg (by omega)]
theorem rMed13_is {s : ByteArray} {a b : ByteArray} {L : List F} {q : Bool} {w : World} (hs : s.size ≤ 65000) (h : Box (ofM (mediaL s.data.toList) = (a, b, L) ∧ (mediaL s.data.toList).isSome = q)) :
    Calls Tryz.prog 49 #[.string s] w fun e w' => ∃ p cap, e = .returned (.tuple #[.agg #[.string a, .string b, .slice p L.length cap], .bool q]) ∧ Fs w' p L ∧ Below w.heap.size w w' :=
  (rMedia_any s w hs).mono fun e w' ⟨v, h1, h2, h3⟩ => by
    rw [h.out.1] at h1 h2
    rw [h.out.2] at h1
    obtain ⟨p, cap, rfl, hF, _⟩ := h2.fs
    exact ⟨p, cap, h1, hF, h3⟩
theorem rmatch13_is {a b c d : ByteArray} {p q : Option Addr} {cp cq : Nat} {K L : List F} {i : Int} {w : World} (hk : Box (K.length ≤ 65536)) (hl : Box (L.length ≤ 65536))
    (hzK : Box (∀ i (hi : i < K.length), K[i].1.size ≤ 65536 ∧ K[i].2.size ≤ 65536)) (hzL : Box (∀ i (hi : i < L.length), L[i].1.size ≤ 65536 ∧ L[i].2.size ≤ 65536)) (hK : Fs w p K) (hL : Fs w q L) (h : Box (matchI (a, b, K) (c, d, L) = i)) :
    Calls Tryz.prog 63 #[.agg #[.string a, .string b, .slice p K.length cp], .agg #[.string c, .string d, .slice q L.length cq]] w fun e w' => e = .returned (.int .i64 i) ∧ Below w.heap.size w w' :=
  (rMatch_any a b c d p q cp cq K L w hk.out hl.out hzK hzL (box hK) (box hL)).mono fun e w' ⟨h1, h2⟩ => ⟨by rw [h1, h.out], h2⟩
set_option maxHeartbeats 1000000 in
theorem rMatch13_acc (r v : ByteArray) (w : World) (hr : r.size ≤ 20000) (hv : v.size ≤ 20000) :
    Calls Tryz.prog 33 #[.int .i64 1, .string r, .string v] w fun e w' => e = .returned (.int .i64 (matchP 1 r.data.toList v.data.toList)) ∧ Below w.heap.size w w' := by
  obtain ⟨⟨a, b, K⟩, h1⟩ : ∃ m, ofM (rangeL r.data.toList) = m := ⟨_, rfl⟩
  obtain ⟨ok, h2⟩ : ∃ q, (rangeL r.data.toList).isSome = q := ⟨_, rfl⟩
  obtain ⟨⟨c, d, L⟩, h3⟩ : ∃ m, ofM (mediaL v.data.toList) = m := ⟨_, rfl⟩
  obtain ⟨is, h4⟩ : ∃ q, (mediaL v.data.toList).isSome = q := ⟨_, rfl⟩
  have HV := box (matchP_acc h1 h2 h3 h4)
  obtain ⟨k1, k2, _, _⟩ := range_len h1
  obtain ⟨l1, l2, _, _⟩ := media_len h3
  have lK : Box (K.length ≤ 65536) := box (by omega)
  have lL : Box (L.length ≤ 65536) := box (by omega)
  have zK : Box (∀ i (hi : i < K.length), K[i].1.size ≤ 65536 ∧ K[i].2.size ≤ 65536) := box (fun i hi => by have := k2 i hi; omega)
  have zL : Box (∀ i (hi : i < L.length), L[i].1.size ≤ 65536 ∧ L[i].2.size ≤ 65536) := box (fun i hi => by have := l2 i hi; omega)
  have H1 := box (And.intro h1 h2)
  have H2 := box (And.intro h3 h4)
  have hr6 : r.size ≤ 65000 := by omega
  have hv6 : v.size ≤ 65000 := by omega
  clear h1 h2 h3 h4 k1 k2 l1 l2
  go_enter Tryz.func33, Tryz.ntmps33
  go_wp2_with fail
  refine (rRange_is hr6 H1).mono ?_; rintro e w1 ⟨p1, c1, rfl, hO1, hb1⟩
  obtain ⟨p9, c9, hv9, hF1, _⟩ := hO1.fs
  cases hv9
  have hnw := below_new w1 (.cells #[.string a, .string b, .slice p1 K.length c1] 77)
  have C1 := box (C3.new (.string a) (.string b) (.slice p1 K.length c1) w1 77)
  have F1 := box (hF1.below hnw)
  have B1 := box (hb1.trans (hnw.mono hb1.size))
  clear hO1 hF1 hb1 hnw
  go_wp2_with fail
  refine (rMed13_is hv6 H2).mono ?_; rintro e w2 ⟨p2, c2, rfl, hF2, hb2⟩
  have hnw := below_new w2 (.cells #[.string c, .string d, .slice p2 L.length c2] 77)
  have N1 := C1.out.next hb2
  have F2 := box ((F1.out.below hb2).below hnw)
  have G2 := box (hF2.below hnw)
  have B2 := box (B1.out.trans ((hb2.trans (hnw.mono hb2.size)).mono B1.out.size))
  have hne : w1.heap.size ≠ w2.heap.size := Nat.ne_of_lt N1.lt
  obtain ⟨⟨s0, s1, s2⟩, _⟩ := N1.next hnw
  obtain ⟨⟨r0, r1, r2⟩, _⟩ := N1
  clear hF2 hb2 hnw
  cases ok with
  | false =>
    have HR : Box (matchP 1 r.data.toList v.data.toList = -1) := box (by rw [HV.out]; rfl)
    go_wp2
    go_ret
    exact ⟨by rw [HR.out]; rfl, B2.out⟩
  | true =>
    cases is with
    | false =>
      have HR : Box (matchP 1 r.data.toList v.data.toList = -1) := box (by rw [HV.out]; rfl)
      go_wp2
      go_ret
      exact ⟨by rw [HR.out]; rfl, B2.out⟩
    | true =>
      have HR : Box (matchI (a, b, K) (c, d, L) = matchP 1 r.data.toList v.data.toList) := box (by rw [HV.out]; rfl)
      go_wp2_with fail
      refine (rmatch13_is lK lL zK zL F2.out G2.out HR).mono ?_; rintro e w3 ⟨rfl, hb3⟩
      have B3 := box (B2.out.trans (hb3.mono B2.out.size))
      clear hb3 r0 r1 r2 s0 s1 s2
      go_wp2
      go_ret
      exact ⟨rfl, B3.out⟩
theorem rMatchC13_is {k i : Int} {r v : ByteArray} {w : World} (hk : InI64 k) (hr : r.size ≤ 20000) (hv : v.size ≤ 20000) (h : Box (matchC k r.data.toList v.data.toList = i)) :
    Calls Tryz.prog 65 #[.int .i64 k, .string r, .string v] w fun e w' => e = .returned (.int .i64 i) ∧ Below w.heap.size w w' :=
  (rMatchC_any k r v w hk (by omega) (by omega)).mono fun e w' ⟨h1, h2⟩ => ⟨by rw [h1, h.out], h2⟩
theorem star13 {s : ByteArray} : (s.toList == [42]) = decide (s.data.toList = [42]) := by
  rw [toList_data]
  by_cases h : s.data.toList = [42]
  · rw [decide_eq_true h, h]; rfl
  · rw [decide_eq_false h, beq_eq_false_iff_ne]; exact h
set_option maxHeartbeats 1000000 in
theorem rMatch13_cod (k : Int) (r v : ByteArray) (w : World) (hk : k = 3 ∨ k = 4) (hr : r.size ≤ 20000) (hv : v.size ≤ 20000) :
    Calls Tryz.prog 33 #[.int .i64 k, .string r, .string v] w fun e w' => e = .returned (.int .i64 (matchP k r.data.toList v.data.toList)) ∧ Below w.heap.size w w' := by
  have HV := box (matchP_cod hk r.data.toList v.data.toList)
  have hki : InI64 k := by rcases hk with rfl | rfl <;> exact ⟨by omega, by omega⟩
  have hst := star13 (s := v)
  have hrm : r.size ≤ maxLen := by unfold maxLen; omega
  have hvm : v.size ≤ maxLen := by unfold maxLen; omega
  cases ht : tokL r.data.toList with
  | false =>
    have HT := box ht
    have HR : Box (matchP k r.data.toList v.data.toList = -1) := box (by rw [HV.out, ht]; rfl)
    clear ht
    rcases hk with rfl | rfl
    all_goals
      go_enter Tryz.func33, Tryz.ntmps33
      go_wp2_with fail
      refine (rTok13_is hrm HT).mono ?_; rintro e w1 ⟨rfl, rfl⟩
      go_wp2
      go_ret
      exact ⟨by rw [HR.out]; rfl, Below.refl _ _⟩
  | true =>
    have HT := box ht
    cases hu : tokL v.data.toList with
    | false =>
      have HU := box hu
      have HR : Box (matchP k r.data.toList v.data.toList = -1) := box (by rw [HV.out, ht, hu]; rfl)
      clear ht hu
      rcases hk with rfl | rfl
      all_goals
        go_enter Tryz.func33, Tryz.ntmps33
        go_wp2_with fail
        refine (rTok13_is hrm HT).mono ?_; rintro e w1 ⟨rfl, rfl⟩
        go_wp2_with fail
        refine (rTok13_is hvm HU).mono ?_; rintro e w1 ⟨rfl, rfl⟩
        go_wp2
        go_ret
        exact ⟨by rw [HR.out]; rfl, Below.refl _ _⟩
    | true =>
      have HU := box hu
      by_cases hs : v.data.toList = [42]
      · have HR : Box (matchP k r.data.toList v.data.toList = -1) := box (by rw [HV.out, ht, hu, decide_eq_false (by simp [hs])]; rfl)
        rw [decide_eq_true hs] at hst
        clear ht hu hs
        rcases hk with rfl | rfl
        all_goals
          go_enter Tryz.func33, Tryz.ntmps33
          go_wp2_with fail
          refine (rTok13_is hrm HT).mono ?_; rintro e w1 ⟨rfl, rfl⟩
          go_wp2_with fail
          refine (rTok13_is hvm HU).mono ?_; rintro e w1 ⟨rfl, rfl⟩
          go_wp2
          go_ret
          exact ⟨by rw [HR.out]; rfl, Below.refl _ _⟩
      · have HR : Box (matchC k r.data.toList v.data.toList = matchP k r.data.toList v.data.toList) := box (by rw [HV.out, ht, hu, decide_eq_true hs]; rfl)
        rw [decide_eq_false hs] at hst
        clear ht hu hs
        rcases hk with rfl | rfl
        all_goals
          go_enter Tryz.func33, Tryz.ntmps33
          go_wp2_with fail
          refine (rTok13_is hrm HT).mono ?_; rintro e w1 ⟨rfl, rfl⟩
          go_wp2_with fail
          refine (rTok13_is hvm HU).mono ?_; rintro e w1 ⟨rfl, rfl⟩
          go_wp2_with fail
          refine (rMatchC13_is hki hr hv HR).mono ?_; rintro e w2 ⟨rfl, hb2⟩
          go_wp2
          go_ret
          exact ⟨rfl, hb2⟩
theorem rMatch13_any (k : Int) (r v : ByteArray) (w : World) (hk : InI64 k) (hr : r.size ≤ 20000) (hv : v.size ≤ 20000) :
    Calls Tryz.prog 33 #[.int .i64 k, .string r, .string v] w fun e w' => e = .returned (.int .i64 (matchP k r.data.toList v.data.toList)) ∧ Below w.heap.size w w' := by
  by_cases h1 : k = 1
  · subst h1; exact rMatch13_acc r v w hr hv
  · by_cases h2 : k = 2
    · subst h2
      have HV := box (matchP_lan r.data.toList v.data.toList)
      have hr6 : r.size ≤ 65000 := by omega
      have hv6 : v.size ≤ 65000 := by omega
      clear h1
      go_enter Tryz.func33, Tryz.ntmps33
      go_wp2_with fail
      refine (rMatchT_any r v _ hr6 hv6).mono ?_; rintro e w1 ⟨rfl, hb1⟩
      go_wp2
      go_ret
      exact ⟨by rw [HV.out]; rfl, hb1⟩
    · by_cases h34 : k = 3 ∨ k = 4
      · exact rMatch13_cod k r v w h34 hr hv
      · have h3 : ¬ k = 3 := fun h => h34 (.inl h)
        have h4 : ¬ k = 4 := fun h => h34 (.inr h)
        have HV := box (matchP_no h1 h2 h3 h4 r.data.toList v.data.toList)
        have e1 : (k == 1) = false := by rw [beq_eq_false_iff_ne]; exact h1
        have e2 : (k == 2) = false := by rw [beq_eq_false_iff_ne]; exact h2
        have e3 : (k == 3) = false := by rw [beq_eq_false_iff_ne]; exact h3
        have e4 : (k == 4) = false := by rw [beq_eq_false_iff_ne]; exact h4
        clear h1 h2 h3 h4 h34
        go_enter Tryz.func33, Tryz.ntmps33
        go_wp2
        go_ret
        exact ⟨by rw [HV.out]; rfl, Below.refl _ _⟩
end
section
open Go.RowKit
theorem rMatch14_is {k i : Int} {r v : ByteArray} {w : World} (hk : InI64 k) (hr : r.size ≤ 20000) (hv : v.size ≤ 20000) (h : Box (matchP k r.data.toList v.data.toList = i)) :
    Calls Tryz.prog 33 #[.int .i64 k, .string r, .string v] w fun e w' => e = .returned (.int .i64 i) ∧ Below w.heap.size w w' :=
  (rMatch13_any k r v w hk hr hv).mono fun e w' ⟨h1, h2⟩ => ⟨by rw [h1, h.out], h2⟩
theorem qual0_no {k : Int} {v : List UInt8} (h : ¬ k = 4) : qual0 k v = 0 := by unfold qual0; rw [if_neg (fun h1 => h h1.1)]
theorem qual0_off {v : List UInt8} (h : foldL v idenL = false) : qual0 4 v = 0 := by unfold qual0; rw [h, if_neg (fun h1 => by cases h1.2)]
theorem qual0_on {v : List UInt8} (h : foldL v idenL = true) : qual0 4 v = 1 := by unfold qual0; rw [h, if_pos ⟨rfl, rfl⟩]
def QlRel (k : Int) (v : List UInt8) (L : List QP) (W : World) (b q i : Value) (wr : World) : Prop :=
  ∃ (x y : Int) (j : Nat), b = .int .i64 x ∧ q = .int .i64 y ∧ i = .int .i64 j ∧ j ≤ L.length ∧ bestQ k v (L.take j) (-1, qual0 k v) = (x, y) ∧ Below W.heap.size W wr
theorem QlRel.below {k : Int} {v : List UInt8} {L : List QP} {W w1 w2 : World} {b q i : Value} (h : QlRel k v L W b q i w1) (hb : Below w1.heap.size w1 w2) : QlRel k v L W b q i w2 := by
  obtain ⟨x, y, j, h1, h2, h3, h4, h5, h6⟩ := h
  exact ⟨x, y, j, h1, h2, h3, h4, h5, h6.trans (hb.mono h6.size)⟩
theorem qual_step1 {k s x y z : Int} {v : List UInt8} {L : List QP} {j : Nat} {p : QP} (hj : j < L.length) (hp : L[j] = p) (h : bestQ k v (L.take j) (-1, qual0 k v) = (x, y)) (hs : matchP k p.1.data.toList v = s) (hlt : x < s) (hz : p.2 = z) : bestQ k v (L.take (j + 1)) (-1, qual0 k v) = (s, z) := by
  rw [best_next hj, h, hp]
  unfold stepQ14
  rw [hs, if_pos hlt, hz]
theorem qual_step2 {k s x y : Int} {v : List UInt8} {L : List QP} {j : Nat} {p : QP} (hj : j < L.length) (hp : L[j] = p) (h : bestQ k v (L.take j) (-1, qual0 k v) = (x, y)) (hs : matchP k p.1.data.toList v = s) (hlt : ¬ x < s) : bestQ k v (L.take (j + 1)) (-1, qual0 k v) = (x, y) := by
  rw [best_next hj, h, hp]
  unfold stepQ14
  rw [hs, if_neg hlt]
theorem iden_lit : (⟨#[105, 100, 101, 110, 116, 105, 116, 121]⟩ : ByteArray).data.toList = idenL := rfl
set_option maxHeartbeats 1000000 in
theorem rQuality_any (k : Int) (a : Option Addr) (cap : Nat) (L : List QP) (present : Bool) (v : ByteArray) (w : World) (hk : InI64 k) (hl : L.length ≤ 65536) (hz : Box (∀ i (hi : i < L.length), L[i].1.size ≤ 20000)) (hv : v.size ≤ 20000) (hF : Box (Qs w a L)) :
    Calls Tryz.prog 51 #[.int .i64 k, .slice a L.length cap, .bool present, .string v] w fun e w' => e = .returned (.int .i64 (qualR k L present v.data.toList)) ∧ Below w.heap.size w w' := by
  cases present with
  | false =>
    go_enter Tryz.func51, Tryz.ntmps51
    go_wp2
    go_ret
    exact ⟨rfl, Below.refl _ _⟩
  | true =>
    have hv4 : v.size ≤ 4294967296 := by omega
    have h8 : (⟨#[105, 100, 101, 110, 116, 105, 116, 121]⟩ : ByteArray).size ≤ 4294967296 := by decide
    have h0 : Box (QlRel k v.data.toList L w (.int .i64 (-1)) (.int .i64 (qual0 k v.data.toList)) (.int .i64 0) w) := box ⟨-1, qual0 k v.data.toList, 0, rfl, rfl, rfl, Nat.zero_le _, rfl, Below.refl _ _⟩
    have hcases : (k = 4 ∧ foldL v.data.toList idenL = false ∧ qual0 k v.data.toList = 0) ∨ (k = 4 ∧ foldL v.data.toList idenL = true ∧ qual0 k v.data.toList = 1) ∨ (¬ k = 4 ∧ qual0 k v.data.toList = 0) := by
      by_cases h4 : k = 4
      · subst h4
        cases hf : foldL v.data.toList idenL with
        | false => exact .inl ⟨rfl, rfl, qual0_off hf⟩
        | true => exact .inr (.inl ⟨rfl, rfl, qual0_on hf⟩)
      · exact .inr (.inr ⟨h4, qual0_no h4⟩)
    rcases hcases with ⟨h4, hf, hu⟩ | ⟨h4, hf, hu⟩ | ⟨h4, hu⟩
    · subst h4
      have HF : Box (foldL v.data.toList (⟨#[105, 100, 101, 110, 116, 105, 116, 121]⟩ : ByteArray).data.toList = false) := box (by rw [iden_lit]; exact hf)
      rw [hu] at h0
      clear hf hu
      go_enter Tryz.func51, Tryz.ntmps51
      go_wp2_with fail
      refine (rFold13_is hv4 h8 HF).mono ?_; rintro e w1 ⟨rfl, hb1⟩
      have h1 := box (h0.out.below hb1)
      clear hb1 h0
      go_wp2
      go_loopw [9, 10, 11, 12] (fun b q i _ wr => QlRel 4 v.data.toList L w b q i wr) (fun _ _ i _ _ => L.length - (intOf i).toNat)
      case atStart => exact h1.out
      case round =>
        obtain ⟨x, y, j, rfl, rfl, rfl, hj, hbest, hbel⟩ := hrel
        have HB := box hbest
        have BL := box hbel
        have F1 := box (hF.out.below hbel)
        clear hbest hbel
        by_cases hlt : j < L.length
        · have hji : (j : Int) < (L.length : Int) := by omega
          obtain ⟨p, hp⟩ : ∃ p, L[j] = p := ⟨_, rfl⟩
          have HP := box hp
          have hpz : p.1.size ≤ 20000 := by have := hz.out j hlt; rw [hp] at this; exact this
          obtain ⟨s, hs⟩ : ∃ s, matchP 4 p.1.data.toList v.data.toList = s := ⟨_, rfl⟩
          have HS := box hs
          obtain ⟨g, off, rfl, c0, c1⟩ := F1.out j hlt
          rw [hp] at c0 c1
          have C1 := box c1
          clear hs hp c1
          by_cases hgt : x < s
          · have HN : Box (bestQ 4 v.data.toList (L.take (j + 1)) (-1, qual0 4 v.data.toList) = (s, p.2)) := box (qual_step1 hlt HP.out HB.out HS.out hgt rfl)
            go_wp2_with fail
            refine (rMatch14_is hk hpz hv HS).mono ?_; rintro e w2 ⟨rfl, hb2⟩
            have B2 := box (BL.out.trans (hb2.mono BL.out.size))
            have c2 := (hb2.cell (cell_lt C1.out)).trans C1.out
            clear hb2 c0
            go_wp2_with fail
            go_region
            go_wp2
            go_roundw
            case rel => exact ⟨s, p.2, j + 1, rfl, rfl, by go_num, hlt, HN.out, B2.out.drew⟩
            case measure => simp [intOf]; omega
          · have HN : Box (bestQ 4 v.data.toList (L.take (j + 1)) (-1, qual0 4 v.data.toList) = (x, y)) := box (qual_step2 hlt HP.out HB.out HS.out hgt)
            go_wp2_with fail
            refine (rMatch14_is hk hpz hv HS).mono ?_; rintro e w2 ⟨rfl, hb2⟩
            have B2 := box (BL.out.trans (hb2.mono BL.out.size))
            clear hb2 c0
            go_wp2
            go_roundw
            case rel => exact ⟨x, y, j + 1, rfl, rfl, by go_num, hlt, HN.out, B2.out⟩
            case measure => simp [intOf]; omega
        · have hji : ¬ (j : Int) < (L.length : Int) := by omega
          have HV : Box (qualR 4 L true v.data.toList = y) := box (by
            have hjl : j = L.length := by omega
            subst hjl
            have := HB.out
            rw [List.take_length] at this
            unfold qualR; rw [if_pos rfl, this])
          go_wp2
          go_ret
          exact ⟨by rw [HV.out]; rfl, BL.out⟩
    · subst h4
      have HF : Box (foldL v.data.toList (⟨#[105, 100, 101, 110, 116, 105, 116, 121]⟩ : ByteArray).data.toList = true) := box (by rw [iden_lit]; exact hf)
      rw [hu] at h0
      clear hf hu
      go_enter Tryz.func51, Tryz.ntmps51
      go_wp2_with fail
      refine (rFold13_is hv4 h8 HF).mono ?_; rintro e w1 ⟨rfl, hb1⟩
      have h1 := box (h0.out.below hb1)
      clear hb1 h0
      go_wp2
      go_loopw [9, 10, 11, 12] (fun b q i _ wr => QlRel 4 v.data.toList L w b q i wr) (fun _ _ i _ _ => L.length - (intOf i).toNat)
      case atStart => exact h1.out
      case round =>
        obtain ⟨x, y, j, rfl, rfl, rfl, hj, hbest, hbel⟩ := hrel
        have HB := box hbest
        have BL := box hbel
        have F1 := box (hF.out.below hbel)
        clear hbest hbel
        by_cases hlt : j < L.length
        · have hji : (j : Int) < (L.length : Int) := by omega
          obtain ⟨p, hp⟩ : ∃ p, L[j] = p := ⟨_, rfl⟩
          have HP := box hp
          have hpz : p.1.size ≤ 20000 := by have := hz.out j hlt; rw [hp] at this; exact this
          obtain ⟨s, hs⟩ : ∃ s, matchP 4 p.1.data.toList v.data.toList = s := ⟨_, rfl⟩
          have HS := box hs
          obtain ⟨g, off, rfl, c0, c1⟩ := F1.out j hlt
          rw [hp] at c0 c1
          have C1 := box c1
          clear hs hp c1
          by_cases hgt : x < s
          · have HN : Box (bestQ 4 v.data.toList (L.take (j + 1)) (-1, qual0 4 v.data.toList) = (s, p.2)) := box (qual_step1 hlt HP.out HB.out HS.out hgt rfl)
            go_wp2_with fail
            refine (rMatch14_is hk hpz hv HS).mono ?_; rintro e w2 ⟨rfl, hb2⟩
            have B2 := box (BL.out.trans (hb2.mono BL.out.size))
            have c2 := (hb2.cell (cell_lt C1.out)).trans C1.out
            clear hb2 c0
            go_wp2_with fail
            go_region
            go_wp2
            go_roundw
            case rel => exact ⟨s, p.2, j + 1, rfl, rfl, by go_num, hlt, HN.out, B2.out.drew⟩
            case measure => simp [intOf]; omega
          · have HN : Box (bestQ 4 v.data.toList (L.take (j + 1)) (-1, qual0 4 v.data.toList) = (x, y)) := box (qual_step2 hlt HP.out HB.out HS.out hgt)
            go_wp2_with fail
            refine (rMatch14_is hk hpz hv HS).mono ?_; rintro e w2 ⟨rfl, hb2⟩
            have B2 := box (BL.out.trans (hb2.mono BL.out.size))
            clear hb2 c0
            go_wp2
            go_roundw
            case rel => exact ⟨x, y, j + 1, rfl, rfl, by go_num, hlt, HN.out, B2.out⟩
            case measure => simp [intOf]; omega
        · have hji : ¬ (j : Int) < (L.length : Int) := by omega
          have HV : Box (qualR 4 L true v.data.toList = y) := box (by
            have hjl : j = L.length := by omega
            subst hjl
            have := HB.out
            rw [List.take_length] at this
            unfold qualR; rw [if_pos rfl, this])
          go_wp2
          go_ret
          exact ⟨by rw [HV.out]; rfl, BL.out⟩
    · have e4 : (k == 4) = false := by rw [beq_eq_false_iff_ne]; exact h4
      rw [hu] at h0
      have h1 := h0
      clear hu h4 h0
      go_enter Tryz.func51, Tryz.ntmps51
      go_wp2
      go_loopw [9, 10, 11, 12] (fun b q i _ wr => QlRel k v.data.toList L w b q i wr) (fun _ _ i _ _ => L.length - (intOf i).toNat)
      case atStart => exact h1.out
      case round =>
        obtain ⟨x, y, j, rfl, rfl, rfl, hj, hbest, hbel⟩ := hrel
        have HB := box hbest
        have BL := box hbel
        have F1 := box (hF.out.below hbel)
        clear hbest hbel
        by_cases hlt : j < L.length
        · have hji : (j : Int) < (L.length : Int) := by omega
          obtain ⟨p, hp⟩ : ∃ p, L[j] = p := ⟨_, rfl⟩
          have HP := box hp
          have hpz : p.1.size ≤ 20000 := by have := hz.out j hlt; rw [hp] at this; exact this
          obtain ⟨s, hs⟩ : ∃ s, matchP k p.1.data.toList v.data.toList = s := ⟨_, rfl⟩
          have HS := box hs
          obtain ⟨g, off, rfl, c0, c1⟩ := F1.out j hlt
          rw [hp] at c0 c1
          have C1 := box c1
          clear hs hp c1
          by_cases hgt : x < s
          · have HN : Box (bestQ k v.data.toList (L.take (j + 1)) (-1, qual0 k v.data.toList) = (s, p.2)) := box (qual_step1 hlt HP.out HB.out HS.out hgt rfl)
            go_wp2_with fail
            refine (rMatch14_is hk hpz hv HS).mono ?_; rintro e w2 ⟨rfl, hb2⟩
            have B2 := box (BL.out.trans (hb2.mono BL.out.size))
            have c2 := (hb2.cell (cell_lt C1.out)).trans C1.out
            clear hb2 c0
            go_wp2_with fail
            go_region
            go_wp2
            go_roundw
            case rel => exact ⟨s, p.2, j + 1, rfl, rfl, by go_num, hlt, HN.out, B2.out.drew⟩
            case measure => simp [intOf]; omega
          · have HN : Box (bestQ k v.data.toList (L.take (j + 1)) (-1, qual0 k v.data.toList) = (x, y)) := box (qual_step2 hlt HP.out HB.out HS.out hgt)
            go_wp2_with fail
            refine (rMatch14_is hk hpz hv HS).mono ?_; rintro e w2 ⟨rfl, hb2⟩
            have B2 := box (BL.out.trans (hb2.mono BL.out.size))
            clear hb2 c0
            go_wp2
            go_roundw
            case rel => exact ⟨x, y, j + 1, rfl, rfl, by go_num, hlt, HN.out, B2.out⟩
            case measure => simp [intOf]; omega
        · have hji : ¬ (j : Int) < (L.length : Int) := by omega
          have HV : Box (qualR k L true v.data.toList = y) := box (by
            have hjl : j = L.length := by omega
            subst hjl
            have := HB.out
            rw [List.take_length] at this
            unfold qualR; rw [if_pos rfl, this])
          go_wp2
          go_ret
          exact ⟨by rw [HV.out]; rfl, BL.out⟩
end
section
open Go.RowKit
def slLen : Value → Nat
  | .slice _ n _ => n
  | _ => 0
theorem inv_len {q : ByteArray → Int} {V out : List ByteArray} (h : InvQ q V out) : out.length ≤ V.length := by
  rcases h with rfl | ⟨_, _, h3⟩
  · exact Nat.zero_le _
  · have h4 : (rankQ q V).length ≤ V.length := by rw [rank_len]; exact List.countP_le_length
    have h5 : out.length ≤ (rankQ q V).length := by rw [h3]; exact List.length_filter_le _ _
    omega
theorem inv_mem {q : ByteArray → Int} {V out : List ByteArray} (h : InvQ q V out) {z : ByteArray} (hz : z ∈ out) : z ∈ V := by
  rcases h with rfl | ⟨_, _, h3⟩
  · cases hz
  · rw [h3] at hz; exact (rankQ_mem (List.mem_filter.1 hz).1).1
theorem rQual17_is {k i : Int} {a : Option Addr} {cap : Nat} {L : List QP} {present : Bool} {v : ByteArray} {w : World} (hk : InI64 k) (hl : L.length ≤ 65536) (hz : Box (∀ i (hi : i < L.length), L[i].1.size ≤ 20000)) (hv : v.size ≤ 20000) (hF : Qs w a L) (h : Box (qualR k L present v.data.toList = i)) :
    Calls Tryz.prog 51 #[.int .i64 k, .slice a L.length cap, .bool present, .string v] w fun e w' => e = .returned (.int .i64 i) ∧ Below w.heap.size w w' := by
  have := rQuality_any k a cap L present v w hk hl hz hv (box hF)
  rw [h.out] at this; exact this
def RrRel (q : ByteArray → Int) (V : List ByteArray) (W : World) (v : Value) (wr : World) : Prop := ∃ out, InvQ q V out ∧ OwnS wr W.heap.size v out ∧ Below W.heap.size W wr
def NxRel (q : ByteArray → Int) (b : Bool) (l : Int) (V : List ByteArray) (W : World) (n i : Value) (wr : World) : Prop :=
  ∃ j : Nat, i = .int .i64 j ∧ j ≤ V.length ∧ n = .int .i64 (nextN q b l (V.take j)) ∧ Box (Below W.heap.size W wr)
def LvRel (q : ByteArray → Int) (y : Int) (V out : List ByteArray) (W : World) (v i : Value) (wr : World) : Prop :=
  ∃ j : Nat, i = .int .i64 j ∧ j ≤ V.length ∧ OwnS wr W.heap.size v (out ++ (V.take j).filter fun v => decide (q v = y)) ∧ Box (Below W.heap.size W wr)
theorem lev_more {q : ByteArray → Int} {y : Int} {V : List ByteArray} {j : Nat} (h : j < V.length) : (V.take (j + 1)).filter (fun v => decide (q v = y)) = (V.take j).filter (fun v => decide (q v = y)) ++ (if q V[j] = y then [V[j]] else []) := by
  rw [List.take_succ_eq_append_getElem h, List.filter_append, List.filter_cons, List.filter_nil]
  by_cases h : q V[j] = y
  · rw [if_pos (decide_eq_true h), if_pos h]
  · rw [if_neg (by simp [h]), if_neg h]
theorem lev_len {qf : ByteArray → Int} {V out : List ByteArray} {y : Int} {j n : Nat} (h : j < V.length) (hI : InvQ qf V (out ++ V.filter fun v => decide (qf v = y))) (hn : out.length = n) : (out ++ (V.take j).filter fun v => decide (qf v = y)).length ≤ V.length := by
  have h1 := inv_len hI
  have h2 : ((V.take j).filter fun v => decide (qf v = y)).length ≤ (V.filter fun v => decide (qf v = y)).length := by
    conv => rhs; rw [← List.take_append_drop j V, List.filter_append, List.length_append]
    omega
  rw [List.length_append] at h1 ⊢
  omega
def OwnPost (w : World) (R : List ByteArray) (e : Ending) (w' : World) : Prop := ∃ v, e = .returned v ∧ OwnS w' w.heap.size v R ∧ Below w.heap.size w w'
set_option maxHeartbeats 4000000 in
theorem rRank_any (k : Int) (a b : Option Addr) (cap cb : Nat) (L : List QP) (present : Bool) (V : List ByteArray) (w : World) (qf : ByteArray → Int) (hk : InI64 k) (hl : L.length ≤ 65536) (hz : Box (∀ i (hi : i < L.length), L[i].1.size ≤ 20000)) (hvl : V.length ≤ 65536) (hvz : Box (∀ i (hi : i < V.length), V[i].size ≤ 20000)) (hF : Box (Qs w a L)) (hS : Box (Ss w b V)) (HQF : Box (∀ v : ByteArray, qualR k L present v.data.toList = qf v)) :
    Calls Tryz.prog 73 #[.int .i64 k, .slice a L.length cap, .bool present, .slice b V.length cb] w fun e w' => OwnPost w (rankQ qf V) e w' := by
  go_enter Tryz.func73, Tryz.ntmps73
  go_wp2
  go_loopw [9] (fun v wr => RrRel qf V w v wr) (fun v _ => V.length - slLen v)
  case atStart => exact ⟨[], .inl rfl, OwnS.nil _ _, Below.refl _ _⟩
  case round =>
    obtain ⟨out, hI, hO, hb⟩ := hrel
    obtain ⟨oa, oc, rfl, hSo, _⟩ := hO.ss
    have HI := box hI
    have HO := box hO
    have BL := box hb
    have hs0 := hb.size
    have HSo := box hSo
    have HM := box (fun z (hz : z ∈ out) => inv_mem hI hz)
    have hol := inv_len hI
    obtain ⟨n, hn⟩ : ∃ n, out.length = n := ⟨_, rfl⟩
    have HN := box hn
    rw [hn] at HO hol ⊢
    clear hI hO hb hSo
    by_cases hlt : n < V.length
    · have hli : (n : Int) < (V.length : Int) := by omega
      by_cases h0 : n = 0
      · subst h0
        have HE : Box (emptyB out = true) := box (by unfold emptyB; rw [hn]; rfl)
        have HL0 : Box (lastQ qf out = 0) := box (by unfold lastQ; rw [hn]; rfl)
        obtain ⟨y, hy⟩ : ∃ y, nextQ qf out V = y := ⟨_, rfl⟩
        have HY : Box (nextN qf true 0 V = y) := box (by rw [← hy]; unfold nextQ; rw [HE.out, HL0.out])
        have HST := box (fun (h : 0 < y) => inv_step HI.out (by rw [hy]; exact h))
        have HNO := box (fun (h : y ≤ 0) => inv_none HI.out (by rw [hy]; exact h))
        rw [hy] at HST
        clear hn hy
        obtain ⟨w1, rfl⟩ : ∃ w1, w1 = wr := ⟨_, rfl⟩
        go_wp2
        go_loopw [11, 12] (fun v i wr => NxRel qf true 0 V w1 v i wr) (fun _ i _ => V.length - (intOf i).toNat)
        case atStart => exact ⟨0, rfl, Nat.zero_le _, rfl, box (Below.refl _ _)⟩
        case round =>
          obtain ⟨j, rfl, hj, rfl, B2⟩ := hrel
          obtain ⟨y0, hy0⟩ : ∃ y0, nextN qf true 0 (V.take j) = y0 := ⟨_, rfl⟩
          rw [hy0]
          obtain ⟨w2, rfl⟩ : ∃ w2, w2 = wr := ⟨_, rfl⟩
          by_cases hjl : j < V.length
          · have hji : (j : Int) < (V.length : Int) := by omega
            have hj0 : (0 : Int) ≤ (j : Int) := by omega
            obtain ⟨x2, hx2⟩ : ∃ x2, V[j] = x2 := ⟨_, rfl⟩
            have hxz2 : x2.size ≤ 20000 := by rw [← hx2]; exact hvz.out j hjl
            obtain ⟨z, hz2⟩ : ∃ z, qf x2 = z := ⟨_, rfl⟩
            have HZ : Box (qualR k L present x2.data.toList = z) := box ((HQF.out x2).trans hz2)
            obtain ⟨g2, off2, rfl, c2⟩ := ((hS.out.below BL.out).below B2.out) j hjl
            rw [hx2] at c2
            have Q2 := box ((hF.out.below BL.out).below B2.out)
            by_cases hm : y0 < z
            · have HN2 : Box (nextN qf true 0 (V.take (j + 1)) = z) := box (by rw [nextN_more hjl, hx2, hy0]; unfold stepN; rw [hz2]; rw [if_pos (.inl rfl)]; omega)
              clear hx2 hy0 hz2
              go_wp2_with fail
              refine (rQual17_is hk hl hz hxz2 Q2.out HZ).mono ?_; rintro e w3 ⟨rfl, hb3⟩
              have B3 := box (B2.out.trans (hb3.mono B2.out.size))
              clear hb3 c2
              go_wp2
              go_roundw
              case rel => exact ⟨j + 1, by go_num, by omega, by rw [HN2.out], B3⟩
              case measure => simp [intOf]; omega
            · have HN2 : Box (nextN qf true 0 (V.take (j + 1)) = y0) := box (by rw [nextN_more hjl, hx2, hy0]; unfold stepN; rw [hz2]; rw [if_pos (.inl rfl)]; omega)
              clear hx2 hy0 hz2
              go_wp2_with fail
              refine (rQual17_is hk hl hz hxz2 Q2.out HZ).mono ?_; rintro e w3 ⟨rfl, hb3⟩
              have B3 := box (B2.out.trans (hb3.mono B2.out.size))
              clear hb3 c2
              go_wp2
              go_roundw
              case rel => exact ⟨j + 1, by go_num, by omega, by rw [HN2.out], B3⟩
              case measure => simp [intOf]; omega
          · have hji : ¬ (j : Int) < (V.length : Int) := by omega
            have HY0 : Box (y0 = y) := box (by rw [← hy0, show j = V.length from by omega, List.take_length]; exact HY.out)
            have HY1 := HY0.out
            subst HY1
            have HO2 := box (own_below HO.out B2.out)
            have BL2 := box (BL.out.trans (B2.out.mono hs0))
            clear hy0 HY0
            by_cases hpos : y0 ≤ 0
            · have HR : Box (out = rankQ qf V) := box (HNO.out hpos)
              go_wp2
              go_ret
              exact ⟨_, rfl, by rw [← HR.out]; exact HO2.out, BL2.out⟩
            · have HS2 := box (HST.out (by omega))
              have hs2 := BL2.out.size
              go_wp2
              go_loopw [9, 14] (fun v i wr => LvRel qf y0 V out w v i wr) (fun _ i _ => V.length - (intOf i).toNat)
              case atStart => exact ⟨0, rfl, Nat.zero_le _, by rw [List.take_zero, List.filter_nil, List.append_nil]; exact HO2.out, BL2⟩
              case round =>
                obtain ⟨m, rfl, hm, hO3, B3⟩ := hrel
                have O3 := box hO3
                obtain ⟨ob, od, rfl, _, hcap3⟩ := hO3.ss
                obtain ⟨r, hr⟩ : ∃ r, (out ++ (V.take m).filter fun v => decide (qf v = y0)) = r := ⟨_, rfl⟩
                rw [hr] at O3 hcap3 ⊢
                have hrl : r.length ≤ 65536 + 65536 := by
                  rw [← hr, List.length_append, HN.out]
                  have := List.length_filter_le (fun v => decide (qf v = y0)) (V.take m)
                  rw [List.length_take] at this; omega
                clear hO3
                by_cases hml : m < V.length
                · have hmi : (m : Int) < (V.length : Int) := by omega
                  have hm0 : (0 : Int) ≤ (m : Int) := by omega
                  obtain ⟨x3, hx3⟩ : ∃ x3, V[m] = x3 := ⟨_, rfl⟩
                  have hxz3 : x3.size ≤ 20000 := by rw [← hx3]; exact hvz.out m hml
                  obtain ⟨z, hz3⟩ : ∃ z, qf x3 = z := ⟨_, rfl⟩
                  have HZ : Box (qualR k L present x3.data.toList = z) := box ((HQF.out x3).trans hz3)
                  obtain ⟨g3, off3, rfl, c3⟩ := (hS.out.below B3.out) m hml
                  rw [hx3] at c3
                  have Q3 := box (hF.out.below B3.out)
                  by_cases he : z = y0
                  · have HN3 : Box (out ++ ((V.take (m + 1)).filter fun v => decide (qf v = y0)) = r ++ [x3]) := box (by rw [lev_more hml, hx3, hz3, if_pos he, ← hr, List.append_assoc])
                    have hzd : (z == y0) = true := by rw [he]; exact beq_self_eq_true _
                    have hrl2 : Box (r.length ≤ 65536) := box (by
                      have h1 := congrArg List.length HN3.out
                      have h2 := lev_len (V := V) (qf := qf) (y := y0) (j := m) hml HS2.out.1 HN.out
                      rw [hr] at h2; omega)
                    clear hx3 hz3 hr he
                    go_wp2_with fail
                    refine (rQual17_is hk hl hz hxz3 Q3.out HZ).mono ?_; rintro e w4 ⟨rfl, hb4⟩
                    have O4 := box (own_below O3.out hb4)
                    have B4 := box (B3.out.trans (hb4.mono B3.out.size))
                    have hs4 := B4.out.size
                    have c4 := (hb4.cell (cell_lt c3)).trans c3
                    clear hb4 c3
                    go_wp2_with (at_builtin; refine wpList_append_str _ rfl (.tmp 76) (.tmp 81) rfl w.heap.size _ r rfl ?ta _ _ rfl x3 ?tb ?tc ?td ?_)
                    case ta => exact own_below O4.out (below_new _ _)
                    case tb => exact (World.cell?_alloc_at (w := w4) #[.string x3] 9 w4.heap.size 0 rfl).trans rfl
                    case tc => exact hrl2.out
                    case td => first | omega | (simp; omega)
                    intro v5 w5 hO5 hb5
                    have O5 := box hO5
                    have B5 := box ((B4.out.alloc hs4 _).trans hb5)
                    clear hO5 hb5
                    go_wp2
                    go_roundw
                    case rel => exact ⟨m + 1, by go_num, by omega, by rw [HN3.out]; exact O5.out, B5⟩
                    case measure => simp [intOf]; omega
                  · have HN3 : Box (out ++ ((V.take (m + 1)).filter fun v => decide (qf v = y0)) = r) := box (by rw [lev_more hml, hx3, hz3, if_neg he, ← hr, List.append_nil])
                    have hzd : (z == y0) = false := by rw [beq_eq_false_iff_ne]; exact he
                    clear hx3 hz3 hr
                    go_wp2_with fail
                    refine (rQual17_is hk hl hz hxz3 Q3.out HZ).mono ?_; rintro e w4 ⟨rfl, hb4⟩
                    have O4 := box (own_below O3.out hb4)
                    have B4 := box (B3.out.trans (hb4.mono B3.out.size))
                    clear hb4 c3
                    go_wp2
                    go_roundw
                    case rel => exact ⟨m + 1, by go_num, by omega, by rw [HN3.out]; exact O4.out, B4⟩
                    case measure => simp [intOf]; omega
                · have hmi : ¬ (m : Int) < (V.length : Int) := by omega
                  have HRE : Box (out ++ (V.filter fun v => decide (qf v = y0)) = r) := box (by rw [← hr, show m = V.length from by omega, List.take_length])
                  have BW3 := B3
                  have hlen2 : 0 < r.length ∧ r.length ≤ V.length := by
                    have h1 := HS2.out.2
                    have h2 := inv_len HS2.out.1
                    rw [HRE.out] at h2
                    have h3 := congrArg List.length HRE.out
                    rw [List.length_append, HN.out] at h3
                    exact ⟨by omega, h2⟩
                  clear hr
                  go_wp2
                  go_roundw
                  case rel => exact ⟨r, by rw [← HRE.out]; exact HS2.out.1, O3.out, BW3.out⟩
                  case measure => simp [slLen]; omega
      · obtain ⟨p, rfl⟩ : ∃ p, n = p + 1 := ⟨n - 1, by omega⟩
        have HE : Box (emptyB out = false) := box (by unfold emptyB; rw [hn]; rfl)
        obtain ⟨l, hl0⟩ : ∃ l, lastQ qf out = l := ⟨_, rfl⟩
        have hpo : p < out.length := by omega
        obtain ⟨x, hx⟩ : ∃ x, out[p] = x := ⟨_, rfl⟩
        have HQX : Box (qualR k L present x.data.toList = l) := box (by
          rw [HQF.out, ← hl0, ← hx]; unfold lastQ
          rw [if_pos (by omega), atS_is (by omega)]
          congr 1
          simp only [hn, Nat.add_sub_cancel])
        have hxz : x.size ≤ 20000 := by
          obtain ⟨i, hi, e⟩ := List.getElem_of_mem (HM.out out[p] (List.getElem_mem hpo))
          rw [← hx, ← e]; exact hvz.out i hi
        obtain ⟨y, hy⟩ : ∃ y, nextQ qf out V = y := ⟨_, rfl⟩
        have HY : Box (nextN qf false l V = y) := box (by rw [← hy, ← hl0]; unfold nextQ; rw [HE.out])
        have HST := box (fun (h : 0 < y) => inv_step HI.out (by rw [hy]; exact h))
        have HNO := box (fun (h : y ≤ 0) => inv_none HI.out (by rw [hy]; exact h))
        rw [hy] at HST
        obtain ⟨g, off, rfl, c0⟩ := HSo.out p hpo
        rw [hx] at c0
        have Q1 := box (hF.out.below BL.out)
        have hp0 : (0 : Int) ≤ (p : Int) := by omega
        clear hn hy hl0 hx
        go_wp2_with fail
        refine (rQual17_is hk hl hz hxz Q1.out HQX).mono ?_; rintro e w1 ⟨rfl, hb1⟩
        replace HO := box (own_below HO.out hb1)
        replace BL := box (BL.out.trans (hb1.mono hs0))
        replace hs0 := BL.out.size
        clear hb1 c0 Q1
        go_wp2
        go_loopw [11, 12] (fun v i wr => NxRel qf false l V w1 v i wr) (fun _ i _ => V.length - (intOf i).toNat)
        case atStart => exact ⟨0, rfl, Nat.zero_le _, rfl, box (Below.refl _ _)⟩
        case round =>
          obtain ⟨j, rfl, hj, rfl, B2⟩ := hrel
          obtain ⟨y0, hy0⟩ : ∃ y0, nextN qf false l (V.take j) = y0 := ⟨_, rfl⟩
          rw [hy0]
          obtain ⟨w2, rfl⟩ : ∃ w2, w2 = wr := ⟨_, rfl⟩
          by_cases hjl : j < V.length
          · have hji : (j : Int) < (V.length : Int) := by omega
            have hj0 : (0 : Int) ≤ (j : Int) := by omega
            obtain ⟨x2, hx2⟩ : ∃ x2, V[j] = x2 := ⟨_, rfl⟩
            have hxz2 : x2.size ≤ 20000 := by rw [← hx2]; exact hvz.out j hjl
            obtain ⟨z, hz2⟩ : ∃ z, qf x2 = z := ⟨_, rfl⟩
            have HZ : Box (qualR k L present x2.data.toList = z) := box ((HQF.out x2).trans hz2)
            obtain ⟨g2, off2, rfl, c2⟩ := ((hS.out.below BL.out).below B2.out) j hjl
            rw [hx2] at c2
            have Q2 := box ((hF.out.below BL.out).below B2.out)
            by_cases hzl : z < l
            · by_cases hm : y0 < z
              · have HN2 : Box (nextN qf false l (V.take (j + 1)) = z) := box (by rw [nextN_more hjl, hx2, hy0]; unfold stepN; rw [hz2]; rw [if_pos (.inr hzl)]; omega)
                clear hx2 hy0 hz2
                go_wp2_with fail
                refine (rQual17_is hk hl hz hxz2 Q2.out HZ).mono ?_; rintro e w3 ⟨rfl, hb3⟩
                have B3 := box (B2.out.trans (hb3.mono B2.out.size))
                clear hb3 c2
                go_wp2
                go_roundw
                case rel => exact ⟨j + 1, by go_num, by omega, by rw [HN2.out], B3⟩
                case measure => simp [intOf]; omega
              · have HN2 : Box (nextN qf false l (V.take (j + 1)) = y0) := box (by rw [nextN_more hjl, hx2, hy0]; unfold stepN; rw [hz2]; rw [if_pos (.inr hzl)]; omega)
                clear hx2 hy0 hz2
                go_wp2_with fail
                refine (rQual17_is hk hl hz hxz2 Q2.out HZ).mono ?_; rintro e w3 ⟨rfl, hb3⟩
                have B3 := box (B2.out.trans (hb3.mono B2.out.size))
                clear hb3 c2
                go_wp2
                go_roundw
                case rel => exact ⟨j + 1, by go_num, by omega, by rw [HN2.out], B3⟩
                case measure => simp [intOf]; omega
            · have hzd : decide (z < l) = false := decide_eq_false hzl
              have HN2 : Box (nextN qf false l (V.take (j + 1)) = y0) := box (by rw [nextN_more hjl, hx2, hy0]; unfold stepN; rw [hz2]; rw [if_neg (fun h => by rcases h with h | h; cases h; exact hzl h)])
              clear hx2 hy0 hz2
              go_wp2_with fail
              refine (rQual17_is hk hl hz hxz2 Q2.out HZ).mono ?_; rintro e w3 ⟨rfl, hb3⟩
              have B3 := box (B2.out.trans (hb3.mono B2.out.size))
              clear hb3 c2
              go_wp2
              go_roundw
              case rel => exact ⟨j + 1, by go_num, by omega, by rw [HN2.out], B3⟩
              case measure => simp [intOf]; omega
          · have hji : ¬ (j : Int) < (V.length : Int) := by omega
            have HY0 : Box (y0 = y) := box (by rw [← hy0, show j = V.length from by omega, List.take_length]; exact HY.out)
            have HY1 := HY0.out
            subst HY1
            have HO2 := box (own_below HO.out B2.out)
            have BL2 := box (BL.out.trans (B2.out.mono hs0))
            clear hy0 HY0
            by_cases hpos : y0 ≤ 0
            · have HR : Box (out = rankQ qf V) := box (HNO.out hpos)
              go_wp2
              go_ret
              exact ⟨_, rfl, by rw [← HR.out]; exact HO2.out, BL2.out⟩
            · have HS2 := box (HST.out (by omega))
              have hs2 := BL2.out.size
              go_wp2
              go_loopw [9, 14] (fun v i wr => LvRel qf y0 V out w v i wr) (fun _ i _ => V.length - (intOf i).toNat)
              case atStart => exact ⟨0, rfl, Nat.zero_le _, by rw [List.take_zero, List.filter_nil, List.append_nil]; exact HO2.out, BL2⟩
              case round =>
                obtain ⟨m, rfl, hm, hO3, B3⟩ := hrel
                have O3 := box hO3
                obtain ⟨ob, od, rfl, _, hcap3⟩ := hO3.ss
                obtain ⟨r, hr⟩ : ∃ r, (out ++ (V.take m).filter fun v => decide (qf v = y0)) = r := ⟨_, rfl⟩
                rw [hr] at O3 hcap3 ⊢
                have hrl : r.length ≤ 65536 + 65536 := by
                  rw [← hr, List.length_append, HN.out]
                  have := List.length_filter_le (fun v => decide (qf v = y0)) (V.take m)
                  rw [List.length_take] at this; omega
                clear hO3
                by_cases hml : m < V.length
                · have hmi : (m : Int) < (V.length : Int) := by omega
                  have hm0 : (0 : Int) ≤ (m : Int) := by omega
                  obtain ⟨x3, hx3⟩ : ∃ x3, V[m] = x3 := ⟨_, rfl⟩
                  have hxz3 : x3.size ≤ 20000 := by rw [← hx3]; exact hvz.out m hml
                  obtain ⟨z, hz3⟩ : ∃ z, qf x3 = z := ⟨_, rfl⟩
                  have HZ : Box (qualR k L present x3.data.toList = z) := box ((HQF.out x3).trans hz3)
                  obtain ⟨g3, off3, rfl, c3⟩ := (hS.out.below B3.out) m hml
                  rw [hx3] at c3
                  have Q3 := box (hF.out.below B3.out)
                  by_cases he : z = y0
                  · have HN3 : Box (out ++ ((V.take (m + 1)).filter fun v => decide (qf v = y0)) = r ++ [x3]) := box (by rw [lev_more hml, hx3, hz3, if_pos he, ← hr, List.append_assoc])
                    have hzd : (z == y0) = true := by rw [he]; exact beq_self_eq_true _
                    have hrl2 : Box (r.length ≤ 65536) := box (by
                      have h1 := congrArg List.length HN3.out
                      have h2 := lev_len (V := V) (qf := qf) (y := y0) (j := m) hml HS2.out.1 HN.out
                      rw [hr] at h2; omega)
                    clear hx3 hz3 hr he
                    go_wp2_with fail
                    refine (rQual17_is hk hl hz hxz3 Q3.out HZ).mono ?_; rintro e w4 ⟨rfl, hb4⟩
                    have O4 := box (own_below O3.out hb4)
                    have B4 := box (B3.out.trans (hb4.mono B3.out.size))
                    have hs4 := B4.out.size
                    have c4 := (hb4.cell (cell_lt c3)).trans c3
                    clear hb4 c3
                    go_wp2_with (at_builtin; refine wpList_append_str _ rfl (.tmp 76) (.tmp 81) rfl w.heap.size _ r rfl ?fa _ _ rfl x3 ?fb ?fc ?fd ?_)
                    case fa => exact own_below O4.out (below_new _ _)
                    case fb => exact (World.cell?_alloc_at (w := w4) #[.string x3] 9 w4.heap.size 0 rfl).trans rfl
                    case fc => exact hrl2.out
                    case fd => first | omega | (simp; omega)
                    intro v5 w5 hO5 hb5
                    have O5 := box hO5
                    have B5 := box ((B4.out.alloc hs4 _).trans hb5)
                    clear hO5 hb5
                    go_wp2
                    go_roundw
                    case rel => exact ⟨m + 1, by go_num, by omega, by rw [HN3.out]; exact O5.out, B5⟩
                    case measure => simp [intOf]; omega
                  · have HN3 : Box (out ++ ((V.take (m + 1)).filter fun v => decide (qf v = y0)) = r) := box (by rw [lev_more hml, hx3, hz3, if_neg he, ← hr, List.append_nil])
                    have hzd : (z == y0) = false := by rw [beq_eq_false_iff_ne]; exact he
                    clear hx3 hz3 hr
                    go_wp2_with fail
                    refine (rQual17_is hk hl hz hxz3 Q3.out HZ).mono ?_; rintro e w4 ⟨rfl, hb4⟩
                    have O4 := box (own_below O3.out hb4)
                    have B4 := box (B3.out.trans (hb4.mono B3.out.size))
                    clear hb4 c3
                    go_wp2
                    go_roundw
                    case rel => exact ⟨m + 1, by go_num, by omega, by rw [HN3.out]; exact O4.out, B4⟩
                    case measure => simp [intOf]; omega
                · have hmi : ¬ (m : Int) < (V.length : Int) := by omega
                  have HRE : Box (out ++ (V.filter fun v => decide (qf v = y0)) = r) := box (by rw [← hr, show m = V.length from by omega, List.take_length])
                  have BW3 := B3
                  have hlen2 : p + 1 < r.length ∧ r.length ≤ V.length := by
                    have h1 := HS2.out.2
                    have h2 := inv_len HS2.out.1
                    rw [HRE.out] at h2
                    have h3 := congrArg List.length HRE.out
                    rw [List.length_append, HN.out] at h3
                    exact ⟨by omega, h2⟩
                  clear hr
                  go_wp2
                  go_roundw
                  case rel => exact ⟨r, by rw [← HRE.out]; exact HS2.out.1, O3.out, BW3.out⟩
                  case measure => simp [slLen]; omega
    · have hli : ¬ (n : Int) < (V.length : Int) := by omega
      have HR : Box (out = rankQ qf V) := box (inv_full HI.out (by rw [HN.out]; exact hlt))
      clear hn
      go_wp2
      go_ret
      exact ⟨_, rfl, by rw [← HR.out]; exact HO.out, BL.out⟩
end
section
open Go.RowKit
theorem mName0_any (k : Int) (w : World) (hk : InI64 k) :
    Calls Tryz.prog 44 #[.int .i64 k] w fun e w' => e = .returned (.string (nameK k)) ∧ w = w' := by
  by_cases h1 : k = 1
  · subst h1
    go_enter Tryz.func44, Tryz.ntmps44
    go_wp2
    go_ret
    exact ⟨rfl, rfl⟩
  · by_cases h2 : k = 2
    · subst h2
      go_enter Tryz.func44, Tryz.ntmps44
      go_wp2
      go_ret
      exact ⟨rfl, rfl⟩
    · by_cases h3 : k = 3
      · subst h3
        go_enter Tryz.func44, Tryz.ntmps44
        go_wp2
        go_ret
        exact ⟨rfl, rfl⟩
      · by_cases h4 : k = 4
        · subst h4
          go_enter Tryz.func44, Tryz.ntmps44
          go_wp2
          go_ret
          exact ⟨rfl, rfl⟩
        · have HV := box (name_no h1 h2 h3 h4)
          have e1 : (k == 1) = false := by rw [beq_eq_false_iff_ne]; exact h1
          have e2 : (k == 2) = false := by rw [beq_eq_false_iff_ne]; exact h2
          have e3 : (k == 3) = false := by rw [beq_eq_false_iff_ne]; exact h3
          have e4 : (k == 4) = false := by rw [beq_eq_false_iff_ne]; exact h4
          clear h1 h2 h3 h4
          go_enter Tryz.func44, Tryz.ntmps44
          go_wp2
          go_ret
          exact ⟨by rw [HV.out]; rfl, rfl⟩
theorem mName0_is {k : Int} {x : ByteArray} {w : World} (hk : InI64 k) (h : Box (nameK k = x)) :
    Calls Tryz.prog 44 #[.int .i64 k] w fun e w' => e = .returned (.string x) ∧ w = w' :=
  (mName0_any k w hk).mono fun e w' ⟨h1, h2⟩ => ⟨by rw [h1, h.out], h2⟩
theorem mFold13_is {a b : ByteArray} {q : Bool} {w : World} (ha : a.size ≤ 65536) (hb : b.size ≤ 65536) (h : Box (foldL a.data.toList b.data.toList = q)) :
    Calls Tryz.prog 126 #[.string a, .string b] w fun e w' => e = .returned (.bool q) ∧ Below w.heap.size w w' :=
  (Fold_any a b w (by unfold maxLen; omega) (by unfold maxLen; omega)).mono fun e w' ⟨h1, h2⟩ => ⟨by rw [h1, h.out], h2⟩
/-- the names up to j are others -/
def KdMRel (n : ByteArray) (W : World) (i : Value) (wr : World) : Prop := ∃ j : Int, i = .int .i64 j ∧ (j = 0 ∨ j = 1 ∨ j = 2 ∨ j = 3 ∨ j = 4) ∧ Box (∀ i : Int, 1 ≤ i → i ≤ j → foldL n.data.toList (nameK i).data.toList = false) ∧ Below W.heap.size W wr
theorem kind_atI {n : ByteArray} {j : Int} (h1 : 1 ≤ j) (h4 : j ≤ 4) (hn : ∀ i : Int, 1 ≤ i → i < j → foldL n.data.toList (nameK i).data.toList = false) (h : foldL n.data.toList (nameK j).data.toList = true) : kindN n = j := by
  have e : ((j.toNat : Nat) : Int) = j := by omega
  have := kind_at (n := n) (j := j.toNat) (by omega) (by omega) (fun i a b => hn i (by omega) (by omega)) (by rw [e]; exact h)
  rw [e] at this; exact this
theorem kind_moreI {n x : ByteArray} {j k : Int} (hk : k = j + 1) (hx : nameK k = x) (hn : ∀ i : Int, 1 ≤ i → i ≤ j → foldL n.data.toList (nameK i).data.toList = false) (h : foldL n.data.toList x.data.toList = false) : ∀ i : Int, 1 ≤ i → i ≤ k → foldL n.data.toList (nameK i).data.toList = false := by
  intro i h1 h2
  by_cases e : i = k
  · rw [e, hx]; exact h
  · exact hn i h1 (by omega)
set_option maxHeartbeats 1000000 in
theorem mKind_any (n : ByteArray) (w : World) (hn : n.size ≤ 65536) :
    Calls Tryz.prog 107 #[.string n] w fun e w' => e = .returned (.int .i64 (kindN n)) ∧ Below w.heap.size w w' := by
  have ix0 : ∀ w, (Instr.index 138 (.agg #[.int .i64 1, .int .i64 2, .int .i64 3, .int .i64 4]) (.int .i64 0)).run Tryz.prog w = .ok (.int .i64 1) w := fun w => by rfl
  have ix1 : ∀ w, (Instr.index 138 (.agg #[.int .i64 1, .int .i64 2, .int .i64 3, .int .i64 4]) (.int .i64 1)).run Tryz.prog w = .ok (.int .i64 2) w := fun w => by rfl
  have ix2 : ∀ w, (Instr.index 138 (.agg #[.int .i64 1, .int .i64 2, .int .i64 3, .int .i64 4]) (.int .i64 2)).run Tryz.prog w = .ok (.int .i64 3) w := fun w => by rfl
  have ix3 : ∀ w, (Instr.index 138 (.agg #[.int .i64 1, .int .i64 2, .int .i64 3, .int .i64 4]) (.int .i64 3)).run Tryz.prog w = .ok (.int .i64 4) w := fun w => by rfl
  go_enter Tryz.func107, Tryz.ntmps107
  go_wp2
  go_loopw [6] (fun i wr => KdMRel n w i wr) (fun i _ => 4 - (intOf i).toNat)
  case atStart => exact ⟨0, rfl, .inl rfl, box (fun i h1 h2 => by omega), Below.refl _ _⟩
  case round =>
    obtain ⟨j, rfl, hj, HNO, hbel⟩ := hrel
    have BL := box hbel
    clear hbel
    rcases hj with rfl | rfl | rfl | rfl | rfl
    · obtain ⟨x, hx⟩ : ∃ x, nameK 1 = x := ⟨_, rfl⟩
      have HX := box hx
      have hxz : x.size ≤ 65536 := by have := name_size 1; rw [hx] at this; omega
      cases hf : foldL n.data.toList x.data.toList with
      | true =>
        have HF := box hf
        have HV : Box (kindN n = 1) := box (kind_atI (by omega) (by omega) (fun i h1 h2 => HNO.out i h1 (by omega)) (by rw [hx]; exact hf))
        clear hf hx
        go_wp2_with fail
        refine (mName0_is ⟨by omega, by omega⟩ HX).mono ?_; rintro e w1 ⟨rfl, rfl⟩
        go_wp2_with fail
        refine (mFold13_is hn hxz HF).mono ?_; rintro e w2 ⟨rfl, hb2⟩
        have B2 := box (BL.out.trans (hb2.mono BL.out.size))
        clear hb2
        go_wp2
        go_ret
        exact ⟨by rw [HV.out]; rfl, B2.out⟩
      | false =>
        have HF := box hf
        have HN2 := box (kind_moreI (k := 1) (by omega) hx HNO.out hf)
        clear hf hx
        go_wp2_with fail
        refine (mName0_is ⟨by omega, by omega⟩ HX).mono ?_; rintro e w1 ⟨rfl, rfl⟩
        go_wp2_with fail
        refine (mFold13_is hn hxz HF).mono ?_; rintro e w2 ⟨rfl, hb2⟩
        have B2 := box (BL.out.trans (hb2.mono BL.out.size))
        clear hb2
        go_wp2
        go_roundw
        case rel => exact ⟨1, by go_num, by omega, HN2, B2.out⟩
        case measure => simp [intOf]
    · obtain ⟨x, hx⟩ : ∃ x, nameK 2 = x := ⟨_, rfl⟩
      have HX := box hx
      have hxz : x.size ≤ 65536 := by have := name_size 2; rw [hx] at this; omega
      cases hf : foldL n.data.toList x.data.toList with
      | true =>
        have HF := box hf
        have HV : Box (kindN n = 2) := box (kind_atI (by omega) (by omega) (fun i h1 h2 => HNO.out i h1 (by omega)) (by rw [hx]; exact hf))
        clear hf hx
        go_wp2_with fail
        refine (mName0_is ⟨by omega, by omega⟩ HX).mono ?_; rintro e w1 ⟨rfl, rfl⟩
        go_wp2_with fail
        refine (mFold13_is hn hxz HF).mono ?_; rintro e w2 ⟨rfl, hb2⟩
        have B2 := box (BL.out.trans (hb2.mono BL.out.size))
        clear hb2
        go_wp2
        go_ret
        exact ⟨by rw [HV.out]; rfl, B2.out⟩
      | false =>
        have HF := box hf
        have HN2 := box (kind_moreI (k := 2) (by omega) hx HNO.out hf)
        clear hf hx
        go_wp2_with fail
        refine (mName0_is ⟨by omega, by omega⟩ HX).mono ?_; rintro e w1 ⟨rfl, rfl⟩
        go_wp2_with fail
        refine (mFold13_is hn hxz HF).mono ?_; rintro e w2 ⟨rfl, hb2⟩
        have B2 := box (BL.out.trans (hb2.mono BL.out.size))
        clear hb2
        go_wp2
        go_roundw
        case rel => exact ⟨2, by go_num, by omega, HN2, B2.out⟩
        case measure => simp [intOf]
    · obtain ⟨x, hx⟩ : ∃ x, nameK 3 = x := ⟨_, rfl⟩
      have HX := box hx
      have hxz : x.size ≤ 65536 := by have := name_size 3; rw [hx] at this; omega
      cases hf : foldL n.data.toList x.data.toList with
      | true =>
        have HF := box hf
        have HV : Box (kindN n = 3) := box (kind_atI (by omega) (by omega) (fun i h1 h2 => HNO.out i h1 (by omega)) (by rw [hx]; exact hf))
        clear hf hx
        go_wp2_with fail
        refine (mName0_is ⟨by omega, by omega⟩ HX).mono ?_; rintro e w1 ⟨rfl, rfl⟩
        go_wp2_with fail
        refine (mFold13_is hn hxz HF).mono ?_; rintro e w2 ⟨rfl, hb2⟩
        have B2 := box (BL.out.trans (hb2.mono BL.out.size))
        clear hb2
        go_wp2
        go_ret
        exact ⟨by rw [HV.out]; rfl, B2.out⟩
      | false =>
        have HF := box hf
        have HN2 := box (kind_moreI (k := 3) (by omega) hx HNO.out hf)
        clear hf hx
        go_wp2_with fail
        refine (mName0_is ⟨by omega, by omega⟩ HX).mono ?_; rintro e w1 ⟨rfl, rfl⟩
        go_wp2_with fail
        refine (mFold13_is hn hxz HF).mono ?_; rintro e w2 ⟨rfl, hb2⟩
        have B2 := box (BL.out.trans (hb2.mono BL.out.size))
        clear hb2
        go_wp2
        go_roundw
        case rel => exact ⟨3, by go_num, by omega, HN2, B2.out⟩
        case measure => simp [intOf]
    · obtain ⟨x, hx⟩ : ∃ x, nameK 4 = x := ⟨_, rfl⟩
      have HX := box hx
      have hxz : x.size ≤ 65536 := by have := name_size 4; rw [hx] at this; omega
      cases hf : foldL n.data.toList x.data.toList with
      | true =>
        have HF := box hf
        have HV : Box (kindN n = 4) := box (kind_atI (by omega) (by omega) (fun i h1 h2 => HNO.out i h1 (by omega)) (by rw [hx]; exact hf))
        clear hf hx
        go_wp2_with fail
        refine (mName0_is ⟨by omega, by omega⟩ HX).mono ?_; rintro e w1 ⟨rfl, rfl⟩
        go_wp2_with fail
        refine (mFold13_is hn hxz HF).mono ?_; rintro e w2 ⟨rfl, hb2⟩
        have B2 := box (BL.out.trans (hb2.mono BL.out.size))
        clear hb2
        go_wp2
        go_ret
        exact ⟨by rw [HV.out]; rfl, B2.out⟩
      | false =>
        have HF := box hf
        have HN2 := box (kind_moreI (k := 4) (by omega) hx HNO.out hf)
        clear hf hx
        go_wp2_with fail
        refine (mName0_is ⟨by omega, by omega⟩ HX).mono ?_; rintro e w1 ⟨rfl, rfl⟩
        go_wp2_with fail
        refine (mFold13_is hn hxz HF).mono ?_; rintro e w2 ⟨rfl, hb2⟩
        have B2 := box (BL.out.trans (hb2.mono BL.out.size))
        clear hb2
        go_wp2
        go_roundw
        case rel => exact ⟨4, by go_num, by omega, HN2, B2.out⟩
        case measure => simp [intOf]
    · have HV : Box (kindN n = 0) := box (kind_no fun i hi1 hi2 => HNO.out i (by omega) (by omega))
      go_wp2
      go_ret
      exact ⟨by rw [HV.out]; rfl, BL.out⟩
end
section
open Go.RowKit Go.Maps
theorem laidOut10 : laidOutB Tryz.prog = true := by kernel_rfl
theorem rowPrm : (109 : TypeId) < Tryz.prog.types.size := of_decide_eq_true (by kernel_rfl)
theorem widePrm : (match Tryz.prog.underlying 109 with | some (.array _ _) | some (.struct _) => true | _ => false) = true := by rw [Tryz.underlying109]
theorem lawPrm : Keyed Tryz.prog 109 := Keyed.of_law (deep_law_laid laidOut10 (m := 3) (by omega) rowPrm (by kernel_rfl) widePrm)
theorem deepPrm : Tryz.prog.keyType 109 = true := by kernel_rfl
theorem cellsPrm : Tryz.prog.cellsOf 109 = 2 := by kernel_rfl
theorem cellsStr : Tryz.prog.cellsOf 9 = 1 := by kernel_rfl
/-- what a parameter reads as when it is a key -/
def pkey (p : F) : Lit := .string (keyBytes [.string p.1.data.toList, .string p.2.data.toList])
def Sml (p : F) : Prop := p.1.size ≤ maxLen ∧ p.2.size ≤ maxLen
theorem formedPrm {c0 c1 : Value} : (Value.agg #[c0, c1]).formed Tryz.prog 109 = true := by simp [Value.formed, Tryz.underlying109, cellsPrm]
theorem pkey_of {p : F} (h : Sml p) : keyOf Tryz.prog 109 (.agg #[.string p.1, .string p.2]) = some (pkey p) := by
  obtain ⟨m, hm⟩ : ∃ m, Tryz.prog.types.size = m + 1 := Nat.exists_eq_succ_of_ne_zero (Nat.ne_zero_of_lt rowPrm)
  unfold keyOf
  rw [Tryz.underlying109]
  simp only [deepPrm, formedPrm, Bool.and_self, if_true, hm]
  simp [Program.keyLits, Tryz.underlying109, Tryz.underlying9, Value.cells, cellsPrm, cellsStr, h.1, h.2, pkey]
theorem pkey_inj {p q : F} (hp : Sml p) (hq : Sml q) (h : pkey p = pkey q) : p = q := by
  have := lawPrm.inj (pkey_of hp) (h ▸ pkey_of hq)
  simp only [Value.agg.injEq, Array.mk.injEq, List.cons.injEq, Value.string.injEq, and_true] at this
  exact Prod.ext this.1 this.2
theorem pkey_key {p : F} (hp : Sml p) : WideAt.IsKeyLit (pkey p) := lawPrm.key (pkey_of hp)
/-- block b is a set of at most n parameters: those of which S says so -/
def PSet (w : World) (b n : Nat) (S : F → Prop) : Prop :=
  ∃ D : DataW Unit, w.ownsMap Tryz.prog 109 (plainElem Tryz.prog 4) b n D ∧ ∀ kl, Maps.has D kl = true ↔ ∃ p, S p ∧ Sml p ∧ pkey p = kl
section
variable {w w' : World} {b n : Nat} {S : F → Prop}
theorem PSet.made (w : World) : PSet (w.alloc (.map #[] 0)) w.heap.size 0 (fun _ => False) :=
  ⟨_, World.ownsMap_made _ _ _ _, fun kl => by simp [Maps.has]⟩
theorem PSet.kept {row : Option Nat} (h : PSet w b n S) (hg : w.grownBy w' row) (hne : some b ≠ row) : PSet w' b n S := by
  obtain ⟨D, h1, h2⟩ := h
  exact ⟨D, h1.kept hg hne, h2⟩
theorem PSet.below {B : Nat} (h : PSet w b n S) (hb : Below B w w') (hB : b < B) : PSet w' b n S := by
  obtain ⟨D, ⟨es, clock, h1, r⟩, h2⟩ := h
  exact ⟨D, ⟨es, clock, (hb.block b hB).trans h1, r⟩, h2⟩
theorem PSet.lt (h : PSet w b n S) : b < w.heap.size := by obtain ⟨D, h1, h2⟩ := h; exact h1.lt
theorem PSet.mono {m : Nat} (h : PSet w b n S) (hm : n ≤ m) : PSet w b m S := by obtain ⟨D, h1, h2⟩ := h; exact ⟨D, h1.mono hm, h2⟩
theorem PSet.iff {T : F → Prop} (h : PSet w b n S) (hT : ∀ p, S p ↔ T p) : PSet w b n T := by
  obtain ⟨D, h1, h2⟩ := h
  refine ⟨D, h1, fun kl => ?_⟩
  rw [h2]
  constructor
  · rintro ⟨p, h3, h4⟩; exact ⟨p, (hT p).1 h3, h4⟩
  · rintro ⟨p, h3, h4⟩; exact ⟨p, (hT p).2 h3, h4⟩
theorem has_put10 {D : DataW Unit} {p : F} {d : DataW Unit} (hD : IsMap D) (hp : Sml p) (h : ∀ kl, Maps.has D kl = true ↔ ∃ p, S p ∧ Sml p ∧ pkey p = kl) :
    ∀ kl, Maps.has (D.put (pkey p) d) kl = true ↔ ∃ q, (S q ∨ q = p) ∧ Sml q ∧ pkey q = kl := by
  intro kl
  by_cases hk : kl = pkey p
  · subst hk
    exact ⟨fun _ => ⟨p, .inr rfl, hp, rfl⟩, fun _ => has_put_same hD (pkey_key hp) d⟩
  · rw [has_put_other hk, h]
    constructor
    · rintro ⟨q, h1, h2, h3⟩; exact ⟨q, .inl h1, h2, h3⟩
    · rintro ⟨q, h1 | rfl, h2, h3⟩
      · exact ⟨q, h1, h2, h3⟩
      · exact absurd h3.symm hk
theorem has_del10 {D : DataW Unit} {p : F} (hp : Sml p) (h : ∀ kl, Maps.has D kl = true ↔ ∃ p, S p ∧ Sml p ∧ pkey p = kl) :
    ∀ kl, Maps.has (D.del (pkey p)) kl = true ↔ ∃ q, (S q ∧ q ≠ p) ∧ Sml q ∧ pkey q = kl := by
  intro kl
  by_cases hk : kl = pkey p
  · subst hk
    rw [has_del_same]
    constructor
    · intro e; cases e
    · rintro ⟨q, ⟨_, hne⟩, h2, h3⟩; exact absurd (pkey_inj h2 hp h3) hne
  · rw [has_del_other hk, h]
    constructor
    · rintro ⟨q, h1, h2, h3⟩; exact ⟨q, ⟨h1, fun e => hk (by rw [← h3, e])⟩, h2, h3⟩
    · rintro ⟨q, ⟨h1, _⟩, h2, h3⟩; exact ⟨q, h1, h2, h3⟩
theorem size_zero10 {D : DataW Unit} (hD : w.ownsMap Tryz.prog 109 (plainElem Tryz.prog 4) b n D) (h : ∀ kl, Maps.has D kl = true ↔ ∃ p, S p ∧ Sml p ∧ pkey p = kl) : Maps.size D = 0 ↔ ∀ p, Sml p → ¬ S p := by
  obtain ⟨es, clock, hb, F, hs, rfl⟩ := hD
  have hks := Maps.fit_keys F
  generalize hl : (es.toList.map (Go.WideElems.rg Tryz.prog 109 (plainElem (H := Unit) Tryz.prog 4))).foldr DataW.insert [] = l at h
  have hk : ∀ p ∈ l, WideAt.IsKeyLit p.1 := fun p hp => by
    rw [← hl] at hp
    obtain ⟨v, hv⟩ := hks p ((Go.WideShapes.sorted_perm _).mem_iff.1 hp)
    exact lawPrm.key hv
  have hs : Maps.size (DataW.map l) = l.length := rfl
  rw [hs]
  constructor
  · intro h0 p hp hS
    have := (h (pkey p)).2 ⟨p, hS, hp, rfl⟩
    rw [List.length_eq_zero_iff] at h0
    subst h0
    simp [Maps.has] at this
  · intro hn
    cases l with
    | nil => rfl
    | cons x r =>
      exfalso
      have h1 : Maps.has (DataW.map (x :: r)) x.1 = true := by
        rw [Maps.has_eq, List.any_cons, WideAt.sameKey_self (hk x (by simp))]; rfl
      obtain ⟨p, hS, hp, _⟩ := (h x.1).1 h1
      exact hn p hp hS
/-- a store: the call's 'm[p] = true' -/
theorem PSet.put {p : F} {m : Nat} (h : PSet w b n S) (hp : Sml p) (hn : n < maxLen) (hm : n + 1 ≤ m) :
    ∃ w', (Instr.mapUpdate 171 (.map (some b)) (.agg #[.string p.1, .string p.2]) (.bool true)).run Tryz.prog w = .ok () w' ∧ PSet w' b m (fun q => S q ∨ q = p) ∧ w.grownBy w' (some b) := by
  obtain ⟨D, h1, h2⟩ := h
  obtain ⟨w', r1, r2, r3⟩ := h1.update lawPrm Tryz.underlying171 hn (pkey_of hp) (plainElem_bool Tryz.underlying4 true)
  exact ⟨w', r1, ⟨_, r2.mono hm, has_put10 h1.isMap hp h2⟩, r3⟩
end
theorem wpList_put10 {w : World} {ops : Array Oper} {rest : List Oper} {o : Oper} {a : Act} {Q : Exit → Act → World → Prop} {b n m : Nat} {S : F → Prop} {p : F}
    (hg : o.guard = none) (mm x v : Operand) (hop : o.op = Op.mapUpdate 171 mm x v) (h : PSet w b n S) (hp : Sml p) (hn : n < maxLen) (hm : n + 1 ≤ m)
    (em : a.eval mm = .map (some b)) (ex : a.eval x = .agg #[.string p.1, .string p.2]) (ev : a.eval v = .bool true)
    (hK : ∀ w', PSet w' b m (fun q => S q ∨ q = p) → w.grownBy w' (some b) → wpList Tryz.prog ops Q rest (a.put o.dst undef) w') : wpList Tryz.prog ops Q (o :: rest) a w := by
  obtain ⟨D, h1, h2⟩ := h
  refine wpList_mapUpdate_own w hg mm x v 171 hop 109 4 lawPrm Tryz.underlying171 _ b n D em h1 hn _ _ _ ex ev (pkey_of hp) _ [] (plainElem_bool Tryz.underlying4 true) ?_
  intro w' r2 r3
  exact hK w' ⟨_, r2.mono hm, has_put10 h1.isMap hp h2⟩ r3
theorem wpList_del10 {w : World} {ops : Array Oper} {rest : List Oper} {o : Oper} {a : Act} {Q : Exit → Act → World → Prop} {b n : Nat} {S : F → Prop} {p : F}
    (hg : o.guard = none) (mm x : Operand) (hop : o.op = Op.call { callee := Callee.builtin Builtin.delete, args := #[mm, x], argTypes := #[171, 109] }) (h : PSet w b n S) (hp : Sml p)
    (em : a.eval mm = .map (some b)) (ex : a.eval x = .agg #[.string p.1, .string p.2])
    (hK : ∀ w', PSet w' b n (fun q => S q ∧ q ≠ p) → w.grownBy w' (some b) → wpList Tryz.prog ops Q rest (a.put o.dst (.tuple #[])) w') : wpList Tryz.prog ops Q (o :: rest) a w := by
  obtain ⟨D, h1, h2⟩ := h
  refine wpList_delete_own w hg mm x 171 109 hop 4 lawPrm Tryz.underlying171 _ b n D em h1 _ _ ex (pkey_of hp) ?_
  intro w' r2 r3
  exact hK w' ⟨_, r2, has_del10 hp h2⟩ r3.grown
theorem wpList_len10 {w : World} {ops : Array Oper} {rest : List Oper} {o : Oper} {a : Act} {Q : Exit → Act → World → Prop} {b n : Nat} {S : F → Prop}
    (hg : o.guard = none) (mm : Operand) (hop : o.op = Op.call { callee := Callee.builtin Builtin.len, args := #[mm], argTypes := #[171] }) (h : PSet w b n S)
    (em : a.eval mm = .map (some b)) (hK : ∀ k : Nat, (k = 0 ↔ ∀ p, Sml p → ¬ S p) → wpList Tryz.prog ops Q rest (a.put o.dst (.int .i64 k)) w) : wpList Tryz.prog ops Q (o :: rest) a w := by
  obtain ⟨D, h1, h2⟩ := h
  refine wpList_len_own w hg mm 171 hop 109 4 Tryz.underlying171 _ b n D em h1 ?_
  exact hK _ (size_zero10 h1 h2)
theorem makeHint10 (k : Nat) (w : World) : (Instr.makeMap 171 (some (.int .i64 (k : Int)))).run Tryz.prog w = .ok (.map (some w.heap.size)) (w.alloc (.map #[] 0)) := by
  simp [Instr.makeMap, run_underlying Tryz.underlying171, asInt, asIntOf, Result.andThen]
end
section
open Go.RowKit
theorem after_any (st : Nat) (c : UInt8) (w : World) (h : st ≤ 2) :
    Calls Tryz.prog 162 #[.int .i64 (st : Int), .int .u8 (c.toNat : Int)] w fun e w' => e = .returned (.int .i64 ((stepQ st c : Nat) : Int)) ∧ w = w' := by
  obtain ⟨v, hv⟩ : ∃ v, stepQ st c = v := ⟨_, rfl⟩
  rw [hv]
  rcases h34 : ((c.toNat : Int) == 34) with _ | _
  · have n34 : c ≠ 34 := byte_no (d := 34) h34
    rcases h92 : ((c.toNat : Int) == 92) with _ | _
    · have n92 : c ≠ 92 := byte_no (d := 92) h92
      have hs : st = 0 ∧ v = 0 ∨ st = 1 ∧ v = 1 ∨ st = 2 ∧ v = 1 := by
        unfold stepQ at hv
        rw [if_neg n34, if_neg n34, if_neg n92] at hv
        split at hv
        · omega
        · split at hv <;> omega
      clear n34 n92 hv h
      rcases hs with ⟨rfl, rfl⟩ | ⟨rfl, rfl⟩ | ⟨rfl, rfl⟩
      all_goals
        go_enter Tryz.func162, Tryz.ntmps162
        go_wp2
        go_ret
        exact ⟨rfl, rfl⟩
    · have e92 : c = 92 := byte_is (d := 92) h92
      have hs : st = 0 ∧ v = 0 ∨ st = 1 ∧ v = 2 ∨ st = 2 ∧ v = 1 := by
        unfold stepQ at hv
        rw [if_neg n34, if_neg n34, if_pos e92] at hv
        split at hv
        · omega
        · split at hv <;> omega
      clear n34 e92 hv h
      rcases hs with ⟨rfl, rfl⟩ | ⟨rfl, rfl⟩ | ⟨rfl, rfl⟩
      all_goals
        go_enter Tryz.func162, Tryz.ntmps162
        go_wp2
        go_ret
        exact ⟨rfl, rfl⟩
  · have e34 : c = 34 := byte_is (d := 34) h34
    have hs : st = 0 ∧ v = 1 ∨ st = 1 ∧ v = 0 ∨ st = 2 ∧ v = 1 := by
      unfold stepQ at hv
      rw [if_pos e34, if_pos e34] at hv
      split at hv
      · omega
      · split at hv <;> omega
    clear e34 hv h
    rcases hs with ⟨rfl, rfl⟩ | ⟨rfl, rfl⟩ | ⟨rfl, rfl⟩
    all_goals
      go_enter Tryz.func162, Tryz.ntmps162
      go_wp2
      go_ret
      exact ⟨rfl, rfl⟩
def pcV (sep : UInt8) (l : List UInt8) : Value := .tuple #[.string (bs (pcL sep l).1), .string (bs (pcL sep l).2.1), .bool (pcL sep l).2.2]
set_option maxHeartbeats 1000000 in
theorem pieceCut_any (s : ByteArray) (sep : UInt8) (w : World) (hs : s.size ≤ 65000) :
    Calls Tryz.prog 136 #[.string s, .int .u8 (sep.toNat : Int)] w fun e w' => e = .returned (pcV sep s.data.toList) ∧ Below w.heap.size w w' := by
  have hz : s.data.toList.length = s.size := by simp
  go_enter Tryz.func136, Tryz.ntmps136
  go_wp2
  go_loop [7, 11] (fun p i => ∃ k st : Nat, k ≤ s.size ∧ st ≤ 2 ∧ p = .int .i64 (st : Int) ∧ i = .int .i64 k ∧ Box (pcL sep s.data.toList = pcAt sep st s.data.toList k)) (fun _ i => s.size - (intOf i).toNat)
  case atStart => exact ⟨0, 0, Nat.zero_le _, by omega, rfl, rfl, box (pc_start _ _)⟩
  case round =>
    obtain ⟨k, st, hk, hst, rfl, rfl, HC⟩ := hrel
    by_cases hlt : k < s.size
    · have hlt' : k < s.data.toList.length := by rw [hz]; exact hlt
      have hbk : s.data.toList[k] = s[k] := rfl
      rcases h0 : ((st : Int) == 0) with _ | _
      · have n0 : st ≠ 0 := by intro h; subst h; simp at h0
        have HX := box (HC.out.trans (pc_step hlt' (fun h => n0 h.1)))
        have hle := stepQ_le st s[k]
        rw [hbk] at HX
        clear hbk n0
        go_wp2_with fail
        refine (after_any st s[k] _ hst).mono ?_; rintro e w1 ⟨rfl, rfl⟩
        go_wp2
        go_round
        case rel => exact ⟨k + 1, stepQ st s[k], by omega, hle, rfl, by go_num, HX⟩
        case measure => simp [intOf]; omega
      · have e0 : st = 0 := by simpa using h0
        subst e0
        rcases h44 : ((s[k].toNat : Int) == (sep.toNat : Int)) with _ | _
        · have n44 : s[k] ≠ sep := byte_no h44
          have HX := box (HC.out.trans (pc_step hlt' (fun h => n44 h.2)))
          have hle := stepQ_le 0 s[k]
          rw [hbk] at HX
          clear hbk n44
          go_wp2_with fail
          refine (after_any 0 s[k] _ hst).mono ?_; rintro e w1 ⟨rfl, rfl⟩
          go_wp2
          go_round
          case rel => exact ⟨k + 1, stepQ 0 s[k], by omega, hle, rfl, by go_num, HX⟩
          case measure => simp [intOf]; omega
        · have HX := box (HC.out.trans (pc_sep hlt' (byte_is h44)))
          clear hbk
          go_wp2
          go_quiet (fail)
          go_wp2
          go_ret3
          refine ⟨?_, below_drewN _ _⟩
          unfold pcV
          rw [HX.out]
          show Ending.returned (.tuple #[.string (s.extract 0 k), .string (s.extract (k + 1) s.size), .bool true]) = _
          rw [ext_bs, ext_bs, List.drop_zero, List.take_of_length_le (i := s.size) (by simp)]
    · have HX := box (HC.out.trans (pc_end (l := s.data.toList) (by rw [hz]; omega)))
      go_wp2
      go_ret3
      refine ⟨?_, Below.refl _ _⟩
      unfold pcV
      rw [HX.out]
      rfl
end
end Go.Proofs.YtklfpkaemnhdhaaGreatDoor.Asc
