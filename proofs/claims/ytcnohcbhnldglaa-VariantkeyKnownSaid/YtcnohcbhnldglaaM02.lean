/- Merged texts: LstSpec LisSpec3 ParSpec ParSpec2 ParSpec3 MedSpec MedSpec2. -/
import Derived.Test.YtcnohcbhnldglaaM01
set_option linter.unusedVariables false
set_option linter.unusedSimpArgs false
set_option maxRecDepth 100000
namespace Go.Proofs.Ytcnohcbhnldglaa.Asc
section
abbrev F := ByteArray × ByteArray
/-- has the name -/
def nmd (nm : ByteArray) (p : F) : Bool := foldL p.1.data.toList nm.data.toList
def getL (nm : ByteArray) (L : List F) : List ByteArray := (L.filter (nmd nm)).map (·.2)
def okF (p : F) : Bool := decide (p.1.size ≤ 300) && decide (p.2.size ≤ 300)
def keepF (L : List F) : Bool := L.all okF && decide (L.length ≤ 70)
theorem take_next {α : Type} {L : List α} {k : Nat} (h : k < L.length) : L.take (k + 1) = L.take k ++ [L[k]] := List.take_succ_eq_append_getElem h
theorem keep_more {L : List F} {k : Nat} (h : k < L.length) (ha : (L.take k).all okF = true) (h1 : L[k].1.size ≤ 300) (h2 : L[k].2.size ≤ 300) : (L.take (k + 1)).all okF = true := by
  rw [take_next h, List.all_append, ha]
  simp [okF, h1, h2]
theorem keep_bad {L : List F} {k : Nat} (h : k < L.length) (h1 : ¬ (L[k].1.size ≤ 300 ∧ L[k].2.size ≤ 300)) : keepF L = false := by
  have : L.all okF = false := by
    rw [← Bool.not_eq_true]; intro ha
    have := List.all_eq_true.mp ha L[k] (List.getElem_mem h)
    simp only [okF, Bool.and_eq_true, decide_eq_true_eq] at this
    exact h1 this
  unfold keepF; rw [this]; rfl
theorem keep_long {L : List F} (h : ¬ L.length ≤ 70) : keepF L = false := by unfold keepF; simp [h]
theorem keep_end {L : List F} (ha : (L.take L.length).all okF = true) (h : L.length ≤ 70) : keepF L = true := by
  rw [List.take_length] at ha
  unfold keepF; rw [ha]; simp [h]
theorem keep_parts {L : List F} (h : keepF L = true) : L.length ≤ 70 ∧ ∀ i (hi : i < L.length), L[i].1.size ≤ 300 ∧ L[i].2.size ≤ 300 := by
  unfold keepF at h
  simp only [Bool.and_eq_true, decide_eq_true_eq] at h
  refine ⟨h.2, fun i hi => ?_⟩
  have := List.all_eq_true.mp h.1 L[i] (List.getElem_mem hi)
  simpa [okF] using this
/-- the place of the first one with the name, or -1 -/
def idxL (nm : ByteArray) (L : List F) : Int := if L.any (nmd nm) then ((L.takeWhile fun p => !nmd nm p).length : Int) else -1
theorem none_not {nm : ByteArray} {l : List F} (h : l.any (nmd nm) = false) : ∀ p ∈ l, nmd nm p = false := fun p hp => by
  have := List.any_eq_false.mp h p hp; simpa using this
theorem split_at {α : Type} {L : List α} {k : Nat} (h : k < L.length) : L = L.take k ++ L[k] :: L.drop (k + 1) := by
  rw [← List.drop_eq_getElem_cons h, List.take_append_drop]
theorem while_not {nm : ByteArray} {l r : List F} (h : l.any (nmd nm) = false) : (l ++ r).takeWhile (fun p => !nmd nm p) = l ++ r.takeWhile (fun p => !nmd nm p) :=
  List.takeWhile_append_of_pos (fun p hp => by rw [none_not h p hp]; rfl)
theorem idx_hit {nm : ByteArray} {L : List F} {k : Nat} (h : k < L.length) (ha : (L.take k).any (nmd nm) = false) (h1 : nmd nm L[k] = true) : idxL nm L = k := by
  have e := split_at h
  have hany : L.any (nmd nm) = true := List.any_eq_true.mpr ⟨L[k], List.getElem_mem h, h1⟩
  unfold idxL
  rw [if_pos hany]
  have : (L.takeWhile fun p => !nmd nm p) = L.take k := by
    conv => lhs; rw [e]
    rw [while_not ha, List.takeWhile_cons, h1]; simp
  rw [this, List.length_take, Nat.min_eq_left (Nat.le_of_lt h)]
/-- the two ways of an index -/
theorem idx_ways (nm : ByteArray) (L : List F) : (idxL nm L = -1 ∧ L.any (nmd nm) = false) ∨ ∃ k : Nat, ∃ h : k < L.length, idxL nm L = k ∧ (L.take k).any (nmd nm) = false ∧ nmd nm L[k] = true := by
  rcases h : L.any (nmd nm) with _ | _
  · exact .inl ⟨by unfold idxL; rw [if_neg (by simp [h])], rfl⟩
  · right
    obtain ⟨k, hk, h1, h2⟩ : ∃ k, ∃ hk : k < L.length, nmd nm L[k] = true ∧ (L.take k).any (nmd nm) = false := by
      induction L with
      | nil => cases h
      | cons p L ih =>
        rcases hp : nmd nm p with _ | _
        · rw [List.any_cons, hp, Bool.false_or] at h
          obtain ⟨k, hk, h1, h2⟩ := ih h
          exact ⟨k + 1, by simpa using hk, by simpa using h1, by rw [List.take_succ_cons, List.any_cons, hp, h2]; rfl⟩
        · exact ⟨0, by simp, by simpa using hp, rfl⟩
    exact ⟨k, hk, idx_hit hk h2 h1, h2, h1⟩
end
section
def allF (vs : List ByteArray) : List (List UInt8) := vs.flatMap fun v => splitL v.data.toList
def allL (nm : ByteArray) (L : List F) : List (List UInt8) := (allF (getL nm L)).take 64
theorem take_two {α : Type} (A B : List α) (n : Nat) : (A.take n ++ B.take n).take n = (A ++ B).take n := by
  rw [List.take_append, List.take_append, List.take_take, Nat.min_self, List.length_take]
  by_cases h : A.length ≤ n
  · rw [Nat.min_eq_right h, List.take_take, Nat.min_eq_left (by omega)]
  · have e1 : n - min n A.length = 0 := by omega
    have e2 : n - A.length = 0 := by omega
    rw [e1, e2]; simp
theorem allF_more {vs : List ByteArray} {k : Nat} (h : k < vs.length) : (allF (vs.take (k + 1))).take 64 = ((allF (vs.take k)).take 64 ++ splitL vs[k].data.toList).take 64 := by
  have e : vs.take (k + 1) = vs.take k ++ [vs[k]] := by rw [List.take_add_one, List.getElem?_eq_getElem h]; rfl
  rw [e]
  unfold allF
  rw [List.flatMap_append]
  simp only [List.flatMap_cons, List.flatMap_nil, List.append_nil]
  have hs : splitL vs[k].data.toList = (splitL vs[k].data.toList).take 64 := by
    rw [List.take_of_length_le]; unfold splitL; rw [List.length_take]; omega
  have t := take_two (vs.take k |>.flatMap fun v => splitL v.data.toList) (splitL vs[k].data.toList) 64
  rw [← hs] at t
  exact t.symm
/-- sizes: a piece is no longer than the list, nor is a member -/
theorem cut_small {sep : UInt8} : ∀ (f : Nat) (q : Bool) (l acc : List UInt8), ∀ p ∈ cutF sep f q l acc, p.length ≤ acc.length + l.length
  | f, q, [], acc, p, hp => by rw [cutF_nil, List.mem_singleton] at hp; subst hp; simp
  | 0, q, c :: r, acc, p, hp => by
    unfold cutF at hp
    rw [List.mem_singleton] at hp; subst hp; simp
  | f + 1, q, c :: r, acc, p, hp => by
    rw [cutF_cons] at hp
    simp only [List.length_cons]
    split at hp
    · match r, hp with
      | [], hp => simp only [List.mem_singleton] at hp; subst hp; simp
      | d :: r2, hp =>
        have := cut_small f q r2 _ p hp
        simp only [List.length_append, List.length_cons, List.length_nil] at this ⊢; omega
    · split at hp
      · have := cut_small f (!q) r _ p hp
        simp only [List.length_append, List.length_cons, List.length_nil] at this ⊢; omega
      · split at hp
        · rcases List.mem_cons.mp hp with e | hp
          · subst e; omega
          · have := cut_small f q r [] p hp
            simp only [List.length_nil] at this; omega
        · have := cut_small f q r _ p hp
          simp only [List.length_append, List.length_cons, List.length_nil] at this ⊢; omega
theorem cut_count {sep : UInt8} : ∀ (f : Nat) (q : Bool) (l acc : List UInt8), (cutF sep f q l acc).length ≤ l.length + 1
  | f, q, [], acc => by rw [cutF_nil]; simp
  | 0, q, c :: r, acc => by unfold cutF; simp
  | f + 1, q, c :: r, acc => by
    rw [cutF_cons]
    simp only [List.length_cons]
    split
    · match r with
      | [] => simp
      | d :: r2 =>
        have := cut_count (sep := sep) f q r2 (acc ++ [c, d])
        simp only [List.length_cons] at this ⊢; omega
    · split
      · have := cut_count (sep := sep) f (!q) r (acc ++ [c]); omega
      · split
        · have := cut_count (sep := sep) f q r []
          simp only [List.length_cons] at this ⊢; omega
        · have := cut_count (sep := sep) f q r (acc ++ [c]); omega
end
section
/-- a parameter: name, '=', a token or a quoted string -/
def paramL (x : List UInt8) : Option F :=
  if cutB 61 x = false ∨ tokL (cut1 61 x) = false then none
  else if tokL (cut2 61 x) = true then some (bs (lowL (cut1 61 x)), bs (cut2 61 x))
  else match unqL (cut2 61 x) with
    | some u => some (bs (lowL (cut1 61 x)), bs u)
    | none => none
/-- the parameters of pieces; those before them -/
def parF : List (List UInt8) → List F → Option (List F)
  | [], acc => some acc
  | p :: ps, acc => if trimL p = [] then parF ps acc else match paramL (trimL p) with
    | some f => parF ps (acc ++ [f])
    | none => none
def parL (s : List UInt8) : Option (List UInt8 × List F) := match cutL 59 s with
  | [] => none
  | v :: ps => if trimL v = [] then none else match parF ps [] with
    | some L => some (trimL v, L)
    | none => none
/-- is a byte behind the list within a quoted string? (as endF, with its own length) -/
def endQ (q : Bool) (l : List UInt8) : Bool := endF l.length q l
theorem endF_fuel : ∀ (f g : Nat) (q : Bool) (l : List UInt8), l.length ≤ f → l.length ≤ g → endF f q l = endF g q l := by
  intro f
  induction f with
  | zero => intro g q l hf hg; have : l = [] := List.eq_nil_of_length_eq_zero (by omega); subst this; rw [endF_nil, endF_nil]
  | succ f ih =>
    intro g q l hf hg
    match l, g with
    | [], g => rw [endF_nil, endF_nil]
    | c :: r, 0 => simp at hg
    | c :: r, g + 1 =>
      simp only [List.length_cons] at hf hg
      rw [endF_cons, endF_cons]
      split
      · match r, hf, hg with
        | [], _, _ => rfl
        | d :: r2, hf, hg =>
          simp only [List.length_cons] at hf hg
          exact ih g q r2 (by omega) (by omega)
      · split
        · exact ih g (!q) r (by omega) (by omega)
        · exact ih g q r (by omega) (by omega)
theorem endL_esc (d : UInt8) (r : List UInt8) : endQ true (92 :: d :: r) = endQ true r := by
  unfold endQ
  show endF (r.length + 1 + 1) true (92 :: d :: r) = _
  rw [endF_cons, if_pos ⟨rfl, rfl⟩]
  exact endF_fuel _ _ _ _ (by omega) (by omega)
theorem endL_quo {q : Bool} {c : UInt8} {r : List UInt8} (h1 : ¬ (q = true ∧ c = 92)) (h : c = 34) : endQ q (c :: r) = endQ (!q) r := by
  unfold endQ
  show endF (r.length + 1) q (c :: r) = _
  rw [endF_cons, if_neg h1, if_pos h]
theorem endL_any {q : Bool} {c : UInt8} {r : List UInt8} (h1 : ¬ (q = true ∧ c = 92)) (h : c ≠ 34) : endQ q (c :: r) = endQ q r := by
  unfold endQ
  show endF (r.length + 1) q (c :: r) = _
  rw [endF_cons, if_neg h1, if_neg h]
/-- what has been escaped, a quote behind it, leads out of the quoted string -/
theorem end_quoted (y : List UInt8) : ∀ l : List UInt8, endQ true (escL l ++ 34 :: y) = endQ false y
  | [] => endL_quo (by simp) rfl
  | c :: r => by
    have e : escL (c :: r) = escB c ++ escL r := rfl
    rw [e]
    unfold escB
    by_cases h : c = 34 ∨ c = 92
    · rw [if_pos h]
      show endQ true (92 :: c :: (escL r ++ 34 :: y)) = _
      rw [endL_esc]; exact end_quoted y r
    · rw [if_neg h]
      show endQ true (c :: (escL r ++ 34 :: y)) = _
      rw [endL_any (fun q => h (.inr q.2)) (fun q => h (.inl q))]; exact end_quoted y r
theorem nc_quoted (sep : UInt8) (y : List UInt8) : ∀ l : List UInt8, ncL sep true (escL l ++ 34 :: y) = ncL sep false y
  | [] => nc_quo (by simp) rfl
  | c :: r => by
    have e : escL (c :: r) = escB c ++ escL r := rfl
    rw [e]
    unfold escB
    by_cases h : c = 34 ∨ c = 92
    · rw [if_pos h]
      show ncL sep true (92 :: c :: (escL r ++ 34 :: y)) = _
      rw [nc_esc ⟨rfl, rfl⟩]; exact nc_quoted sep y r
    · rw [if_neg h]
      show ncL sep true (c :: (escL r ++ 34 :: y)) = _
      rw [nc_any (fun q => h (.inr q.2)) (fun q => h (.inl q)) (by simp)]; exact nc_quoted sep y r
/-- a piece: no separator outside quoted strings, none of which is open at its end -/
def Piece (sep : UInt8) (p : List UInt8) : Prop := ncL sep false p = true ∧ endQ false p = false
theorem Piece.nil (sep : UInt8) : Piece sep [] := ⟨rfl, rfl⟩
theorem Piece.cons {sep c : UInt8} {p : List UInt8} (h1 : c ≠ 34) (h2 : c ≠ sep) (h : Piece sep p) : Piece sep (c :: p) :=
  ⟨by rw [nc_any (by simp) h1 (fun q => h2 q.1)]; exact h.1, by rw [endL_any (by simp) h1]; exact h.2⟩
theorem Piece.plain {sep : UInt8} : ∀ {a p : List UInt8}, (∀ c ∈ a, c ≠ 34 ∧ c ≠ sep) → Piece sep p → Piece sep (a ++ p)
  | [], p, _, h => h
  | c :: r, p, ha, h => Piece.cons (ha c (by simp)).1 (ha c (by simp)).2 (Piece.plain (fun d hd => ha d (by simp [hd])) h)
theorem Piece.quote (sep : UInt8) (l : List UInt8) {p : List UInt8} (h : Piece sep p) : Piece sep (quoteL l ++ p) := by
  have e : quoteL l ++ p = 34 :: (escL l ++ 34 :: p) := by unfold quoteL; simp
  rw [e]
  exact ⟨by rw [nc_quo (by simp) rfl]; exact (nc_quoted sep p l).trans h.1, by rw [endL_quo (by simp) rfl]; exact (end_quoted p l).trans h.2⟩
theorem tok_byte {l : List UInt8} (h : tokL l = true) : ∀ c ∈ l, tokI c.toNat = true := by
  unfold tokL at h
  rw [Bool.and_eq_true] at h
  exact fun c hc => List.all_eq_true.mp h.2 c hc
theorem tok_ne {l : List UInt8} (h : tokL l = true) : l ≠ [] := by
  unfold tokL at h
  intro e; rw [e] at h; simp at h
end
section
theorem parF_step {p : List UInt8} {ps : List (List UInt8)} {acc : List F} {f : F} (h0 : trimL p ≠ []) (h : paramL (trimL p) = some f) : parF (p :: ps) acc = parF ps (acc ++ [f]) := by
  show (if trimL p = [] then parF ps acc else match paramL (trimL p) with | some f => parF ps (acc ++ [f]) | none => none) = _
  rw [if_neg h0, h]
theorem parF_skip {p : List UInt8} {ps : List (List UInt8)} {acc : List F} (h0 : trimL p = []) : parF (p :: ps) acc = parF ps acc := by
  show (if trimL p = [] then parF ps acc else match paramL (trimL p) with | some f => parF ps (acc ++ [f]) | none => none) = _
  rw [if_pos h0]
end
section
def parA (l : List UInt8) : ByteArray := match parL l with | some (v, _) => bs v | none => ⟨#[]⟩
def parB (l : List UInt8) : List F := match parL l with | some (_, L) => L | none => []
def parO (l : List UInt8) : Bool := (parL l).isSome
theorem cutF_ne {sep : UInt8} : ∀ (f : Nat) (q : Bool) (l acc : List UInt8), cutF sep f q l acc ≠ []
  | f, q, [], acc => by rw [cutF_nil]; simp
  | 0, q, c :: r, acc => by unfold cutF; simp
  | f + 1, q, c :: r, acc => by
    rw [cutF_cons]
    split
    · match r with
      | [] => simp
      | d :: r2 => exact cutF_ne f q r2 _
    · split
      · exact cutF_ne f (!q) r _
      · split
        · simp
        · exact cutF_ne f q r _
theorem cut_first (sep : UInt8) (l : List UInt8) : ∃ v ps, cutL sep l = v :: ps := by
  cases h : cutL sep l with
  | nil => exact absurd h (cutF_ne _ _ _ _)
  | cons v ps => exact ⟨v, ps, rfl⟩
theorem par_none0 {l v : List UInt8} {ps : List (List UInt8)} (h : cutL 59 l = v :: ps) (ht : trimL v = []) : parA l = ⟨#[]⟩ ∧ parB l = [] ∧ parO l = false := by
  unfold parA parB parO parL; rw [h]; simp only; rw [if_pos ht]; exact ⟨rfl, rfl, rfl⟩
theorem par_none1 {l v : List UInt8} {ps : List (List UInt8)} (h : cutL 59 l = v :: ps) (ht : trimL v ≠ []) (hp : parF ps [] = none) : parA l = ⟨#[]⟩ ∧ parB l = [] ∧ parO l = false := by
  unfold parA parB parO parL; rw [h]; simp only; rw [if_neg ht, hp]; exact ⟨rfl, rfl, rfl⟩
theorem par_some {l v : List UInt8} {ps : List (List UInt8)} {L : List F} (h : cutL 59 l = v :: ps) (ht : trimL v ≠ []) (hp : parF ps [] = some L) : parA l = bs (trimL v) ∧ parB l = L ∧ parO l = true := by
  unfold parA parB parO parL; rw [h]; simp only; rw [if_neg ht, hp]; exact ⟨rfl, rfl, rfl⟩
theorem parF_bad {p : List UInt8} {ps : List (List UInt8)} {acc : List F} (h0 : trimL p ≠ []) (h : paramL (trimL p) = none) : parF (p :: ps) acc = none := by
  show (if trimL p = [] then parF ps acc else match paramL (trimL p) with | some f => parF ps (acc ++ [f]) | none => none) = _
  rw [if_neg h0, h]
end
section
/-- type, sub, parameters -/
abbrev M := ByteArray × ByteArray × List F
def typeL (v : List UInt8) : Option (ByteArray × ByteArray) :=
  if cutB 47 v = false then none
  else if tokL (cut1 47 v) = false then none
  else if tokL (cut2 47 v) = false then none
  else if cut1 47 v = [42] ∧ cut2 47 v ≠ [42] then none
  else some (bs (lowL (cut1 47 v)), bs (lowL (cut2 47 v)))
def rangeL (s : List UInt8) : Option M := match parL s with
  | none => none
  | some (v, L) => match typeL v with
    | none => none
    | some (a, b) => some (a, b, L)
def star : ByteArray := ⟨#[42]⟩
def mediaL (s : List UInt8) : Option M := match rangeL s with
  | none => none
  | some (a, b, L) => if a = star ∨ b = star then none else some (a, b, L)
def noM : M := (⟨#[]⟩, ⟨#[]⟩, [])
/-- the results in parts -/
def ofM (o : Option M) : M := o.getD noM
theorem range_par {s : List UInt8} (h : parO s = false) : rangeL s = none := by
  unfold parO at h; unfold rangeL
  cases hp : parL s with
  | none => rfl
  | some x => rw [hp] at h; simp at h
theorem range_type {s : List UInt8} {v : ByteArray} (h : parO s = true) (hv : parA s = v) : rangeL s = (typeL v.data.toList).map fun p => (p.1, p.2, parB s) := by
  unfold parO at h; unfold rangeL; unfold parA at hv; unfold parB
  cases hp : parL s with
  | none => rw [hp] at h; simp at h
  | some x =>
    obtain ⟨a, L⟩ := x
    rw [hp] at hv
    simp only at hv ⊢
    subst hv
    rw [bs_toList]
    cases typeL a with
    | none => rfl
    | some p => rfl
end
section
def chkT (n : Nat) : Bool := !tokI (n : Int) || (textI (n : Int) && tokI (lowB (UInt8.ofNat n)).toNat && UInt8.ofNat n != 47 && ((lowB (UInt8.ofNat n) == 42) == (UInt8.ofNat n == 42)) && !blankB (UInt8.ofNat n))
theorem chkT_all : ∀ x : Fin 256, chkT x.1 = true := by decide +kernel
theorem tok_more {c : UInt8} (h : tokI c.toNat = true) : textI c.toNat = true ∧ tokI (lowB c).toNat = true ∧ c ≠ 47 ∧ (lowB c = 42 ↔ c = 42) ∧ blankB c = false := by
  have k := chkT_all ⟨c.toNat, c.toNat_lt⟩
  unfold chkT at k
  simp only [UInt8.ofNat_toNat] at k
  rw [h] at k
  simp at k
  obtain ⟨⟨⟨⟨k1, k2⟩, k3⟩, k4⟩, k5⟩ := k
  exact ⟨k1, k2, k3, by rw [← beq_iff_eq, k4, beq_iff_eq], k5⟩
theorem tok_mk {l : List UInt8} (h0 : l ≠ []) (h : ∀ c ∈ l, tokI c.toNat = true) : tokL l = true := by
  unfold tokL allI
  rw [Bool.and_eq_true, List.all_eq_true]
  refine ⟨?_, h⟩
  cases l with
  | nil => exact absurd rfl h0
  | cons c r => rfl
theorem text_mk {l : List UInt8} (h : ∀ c ∈ l, textI c.toNat = true) : textL l = true := by
  unfold textL allI; rw [List.all_eq_true]; exact h
theorem text_byte {l : List UInt8} (h : textL l = true) : ∀ c ∈ l, textI c.toNat = true := by
  unfold textL allI at h; rw [List.all_eq_true] at h; exact h
theorem tok_text {l : List UInt8} (h : tokL l = true) : textL l = true := text_mk fun c hc => (tok_more (tok_byte h c hc)).1
theorem tok_low {l : List UInt8} (h : tokL l = true) : tokL (lowL l) = true := by
  refine tok_mk ?_ ?_
  · rw [lowL_map]; intro e; exact tok_ne h (List.map_eq_nil_iff.1 e)
  · intro c hc
    rw [lowL_map] at hc
    obtain ⟨d, hd, rfl⟩ := List.mem_map.1 hc
    exact (tok_more (tok_byte h d hd)).2.1
theorem low_star {l : List UInt8} (h : tokL l = true) : lowL l = [42] ↔ l = [42] := by
  rw [lowL_map]
  match l, h with
  | [c], h =>
    have := (tok_more (tok_byte h c (by simp))).2.2.2.1
    simp [this]
  | [], h => exact absurd rfl (tok_ne h)
  | _ :: _ :: _, h => simp
theorem unesc_facts : ∀ (n : Nat) (l t : List UInt8), l.length ≤ n → unescL l = some t → t.length ≤ l.length ∧ (textL l = true → textL t = true)
  | n, [], t, _, h => by unfold unescL at h; cases h; exact ⟨Nat.le_refl _, fun _ => rfl⟩
  | 0, c :: r, t, hl, _ => by simp at hl
  | n + 1, c :: r, t, hl, h => by
    simp only [List.length_cons] at hl
    by_cases h34 : c = 34
    · rw [h34, unescL_q] at h; cases h
    · by_cases h92 : c = 92
      · subst h92
        match r, hl, h with
        | [], _, h => rw [unescL_e] at h; cases h
        | d :: r, hl, h =>
          rw [unescL_b] at h
          obtain ⟨u, hu, rfl⟩ := Option.map_eq_some_iff.1 h
          simp only [List.length_cons] at hl
          obtain ⟨i1, i2⟩ := unesc_facts n r u (by omega) hu
          refine ⟨by simp only [List.length_cons]; omega, fun ht => text_mk ?_⟩
          have hb := text_byte ht
          intro x hx
          rcases List.mem_cons.1 hx with rfl | hx
          · exact hb _ (by simp)
          · exact text_byte (i2 (text_mk fun y hy => hb y (by simp [hy]))) x hx
      · rw [unescL_o c r h34 h92] at h
        obtain ⟨u, hu, rfl⟩ := Option.map_eq_some_iff.1 h
        obtain ⟨i1, i2⟩ := unesc_facts n r u (by omega) hu
        refine ⟨by simp only [List.length_cons]; omega, fun ht => text_mk ?_⟩
        have hb := text_byte ht
        intro x hx
        rcases List.mem_cons.1 hx with rfl | hx
        · exact hb _ (by simp)
        · exact text_byte (i2 (text_mk fun y hy => hb y (by simp [hy]))) x hx
theorem unq_facts {l t : List UInt8} (h : unqL l = some t) : t.length ≤ l.length ∧ textL t = true := by
  unfold unqL at h
  split at h
  · cases h
  · unfold unqIn at h
    split at h
    · rename_i ht
      obtain ⟨i1, i2⟩ := unesc_facts _ _ t (Nat.le_refl _) h
      refine ⟨?_, i2 ht⟩
      simp only [List.length_drop, List.length_take] at i1
      omega
    · cases h
theorem lowL_len (l : List UInt8) : (lowL l).length = l.length := by simp [lowL]
theorem cut_sizes10 {c : UInt8} {l : List UInt8} : (cut1 c l).length + (cut2 c l).length ≤ l.length := by
  unfold cut1 cut2
  have := congrArg List.length (List.takeWhile_append_dropWhile (p := (· != c)) (l := l))
  rw [List.length_append] at this
  rw [List.length_drop]; omega
/-- name in lower case, a token; the value a text -/
def GoodP (p : F) : Prop := tokL p.1.data.toList = true ∧ lowL p.1.data.toList = p.1.data.toList ∧ textL p.2.data.toList = true
theorem param_facts {x : List UInt8} {p : F} (h : paramL x = some p) : GoodP p ∧ p.1.size + p.2.size ≤ x.length := by
  have hs := cut_sizes10 (c := 61) (l := x)
  have hlow : (lowL (cut1 61 x)).length = (cut1 61 x).length := lowL_len _
  unfold paramL at h
  split at h
  · cases h
  · rename_i hc
    have ht : tokL (cut1 61 x) = true := by
      cases hh : tokL (cut1 61 x) with
      | true => rfl
      | false => exact absurd (.inr hh) hc
    split at h
    · rename_i hv
      cases h
      exact ⟨⟨tok_low ht, low_low _, tok_text hv⟩, by rw [bs_size, bs_size]; omega⟩
    · cases hu : unqL (cut2 61 x) with
      | none => rw [hu] at h; cases h
      | some u =>
        rw [hu] at h; cases h
        obtain ⟨u1, u2⟩ := unq_facts hu
        exact ⟨⟨tok_low ht, low_low _, u2⟩, by rw [bs_size, bs_size]; omega⟩
def szF (L : List F) : Nat := (L.map fun p => p.1.size + p.2.size).sum
theorem parF_facts : ∀ (ps : List (List UInt8)) (acc L : List F), parF ps acc = some L → (∀ p ∈ acc, GoodP p) → (∀ p ∈ L, GoodP p) ∧ szF L ≤ szF acc + (ps.map List.length).sum ∧ L.length ≤ acc.length + ps.length
  | [], acc, L, h, ha => by unfold parF at h; cases h; exact ⟨ha, by simp, by simp⟩
  | p :: ps, acc, L, h, ha => by
    unfold parF at h
    split at h
    · obtain ⟨i1, i2, i3⟩ := parF_facts ps acc L h ha
      exact ⟨i1, by simp only [List.map_cons, List.sum_cons]; omega, by simp only [List.length_cons]; omega⟩
    · cases hp : paramL (trimL p) with
      | none => rw [hp] at h; cases h
      | some f =>
        rw [hp] at h
        obtain ⟨g1, g2⟩ := param_facts hp
        have ht := trim_le p
        obtain ⟨i1, i2, i3⟩ := parF_facts ps (acc ++ [f]) L h (fun q hq => by
          rcases List.mem_append.1 hq with hq | hq
          · exact ha q hq
          · rw [List.mem_singleton.1 hq]; exact g1)
        refine ⟨i1, ?_, ?_⟩
        · have e : szF (acc ++ [f]) = szF acc + (f.1.size + f.2.size) := by simp [szF]
          rw [e] at i2
          simp only [List.map_cons, List.sum_cons]; omega
        · simp only [List.length_append, List.length_cons, List.length_nil] at i3 ⊢; omega
theorem cut_sum {sep : UInt8} : ∀ (f : Nat) (q : Bool) (l acc : List UInt8), ((cutF sep f q l acc).map List.length).sum ≤ acc.length + l.length
  | f, q, [], acc => by rw [cutF_nil]; simp
  | 0, q, c :: r, acc => by unfold cutF; simp
  | f + 1, q, c :: r, acc => by
    rw [cutF_cons]
    split
    · match r with
      | [] => simp
      | d :: r2 =>
        have := cut_sum (sep := sep) f q r2 (acc ++ [c, d])
        simp only [List.length_append, List.length_cons, List.length_nil] at this ⊢; omega
    · split
      · have := cut_sum (sep := sep) f (!q) r (acc ++ [c])
        simp only [List.length_append, List.length_cons, List.length_nil] at this ⊢; omega
      · split
        · have := cut_sum (sep := sep) f q r []
          simp only [List.map_cons, List.sum_cons, List.length_cons, List.length_nil] at this ⊢; omega
        · have := cut_sum (sep := sep) f q r (acc ++ [c])
          simp only [List.length_append, List.length_cons, List.length_nil] at this ⊢; omega
theorem par_facts {s v : List UInt8} {L : List F} (h : parL s = some (v, L)) : (∀ p ∈ L, GoodP p) ∧ v.length + szF L ≤ s.length ∧ L.length ≤ s.length ∧ trimL v = v ∧ v ≠ [] := by
  unfold parL at h
  cases hc : cutL 59 s with
  | nil => rw [hc] at h; cases h
  | cons x ps =>
    rw [hc] at h
    simp only at h
    split at h
    · cases h
    · rename_i hx
      cases hp : parF ps [] with
      | none => rw [hp] at h; cases h
      | some K =>
        rw [hp] at h
        cases h
        obtain ⟨i1, i2, i3⟩ := parF_facts ps [] L hp (by simp)
        have hsum := cut_sum (sep := 59) s.length false s []
        have hcnt := cut_count (sep := 59) s.length false s []
        rw [show cutF 59 s.length false s [] = x :: ps from hc] at hsum hcnt
        simp only [List.map_cons, List.sum_cons, List.length_nil, List.length_cons] at hsum hcnt
        have ht := trim_le x
        have e : szF [] = 0 := rfl
        rw [e] at i2
        simp only [List.length_nil] at i3
        exact ⟨i1, by omega, by omega, trim_trim x, hx⟩
theorem type_facts {v : List UInt8} {a b : ByteArray} (h : typeL v = some (a, b)) :
    tokL a.data.toList = true ∧ tokL b.data.toList = true ∧ lowL a.data.toList = a.data.toList ∧ lowL b.data.toList = b.data.toList ∧ ¬ (a.data.toList = [42] ∧ b.data.toList ≠ [42]) ∧ a.size + b.size ≤ v.length := by
  unfold typeL at h
  split at h
  · cases h
  · split at h
    · cases h
    · rename_i h1
      split at h
      · cases h
      · rename_i h2
        split at h
        · cases h
        · rename_i h3
          cases h
          have t1 : tokL (cut1 47 v) = true := by simpa using h1
          have t2 : tokL (cut2 47 v) = true := by simpa using h2
          refine ⟨tok_low t1, tok_low t2, low_low _, low_low _, ?_, ?_⟩
          · rw [bs_toList, bs_toList, low_star t1]
            intro q
            exact h3 ⟨q.1, fun e => q.2 ((low_star t2).2 e)⟩
          · rw [bs_size, bs_size, lowL_len, lowL_len]; exact cut_sizes10
theorem range_facts {s : List UInt8} {a b : ByteArray} {L : List F} (h : rangeL s = some (a, b, L)) :
    (tokL a.data.toList = true ∧ tokL b.data.toList = true ∧ lowL a.data.toList = a.data.toList ∧ lowL b.data.toList = b.data.toList ∧ ¬ (a.data.toList = [42] ∧ b.data.toList ≠ [42])) ∧ (∀ p ∈ L, GoodP p) ∧ a.size + b.size + szF L ≤ s.length ∧ L.length ≤ s.length := by
  unfold rangeL at h
  cases hp : parL s with
  | none => rw [hp] at h; cases h
  | some y =>
    obtain ⟨v, K⟩ := y
    rw [hp] at h
    simp only at h
    cases ht : typeL v with
    | none => rw [ht] at h; cases h
    | some z =>
      obtain ⟨c, d⟩ := z
      rw [ht] at h
      cases h
      obtain ⟨p1, p2, p3, _, _⟩ := par_facts hp
      obtain ⟨t1, t2, t3, t4, t5, t6⟩ := type_facts ht
      exact ⟨⟨t1, t2, t3, t4, t5⟩, p1, by omega, p3⟩
theorem szF_mem {p : F} : ∀ {L : List F}, p ∈ L → p.1.size + p.2.size ≤ szF L
  | q :: L, h => by
    have e : szF (q :: L) = q.1.size + q.2.size + szF L := by simp [szF]
    rw [e]
    rcases List.mem_cons.1 h with rfl | h
    · omega
    · have := szF_mem h; omega
theorem szF_at {L : List F} {i : Nat} (h : i < L.length) : L[i].1.size + L[i].2.size ≤ szF L := szF_mem (List.getElem_mem h)
end
end Go.Proofs.Ytcnohcbhnldglaa.Asc
