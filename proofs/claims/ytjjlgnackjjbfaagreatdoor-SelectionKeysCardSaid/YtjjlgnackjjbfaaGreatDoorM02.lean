/- Merged texts: LstSpec LisSpec3 LisSpec4 ParSpec ParSpec2 ParSpec3 MedSpec. -/
import Derived.Test.YtjjlgnackjjbfaaGreatDoorM01
set_option linter.unusedVariables false
set_option linter.unusedSimpArgs false
set_option maxRecDepth 100000
namespace Go.Proofs.YtjjlgnackjjbfaaGreatDoor.Asc
section
abbrev F := ByteArray × ByteArray
/-- has the name -/
def nmd (nm : ByteArray) (p : F) : Bool := foldL p.1.data.toList nm.data.toList
def getL (nm : ByteArray) (L : List F) : List ByteArray := (L.filter (nmd nm)).map (·.2)
def okF (p : F) : Bool := decide (p.1.size ≤ 300) && decide (p.2.size ≤ 300)
def keepF (L : List F) : Bool := L.all okF && decide (L.length ≤ 70)
theorem take_next {α : Type} {L : List α} {k : Nat} (h : k < L.length) : L.take (k + 1) = L.take k ++ [L[k]] := List.take_succ_eq_append_getElem h
theorem keep_more {L : List F} {k : Nat} (h : k < L.length) (ha : (L.take k).all okF = true) (h1 : L[k].1.size ≤ 300) (h2 : L[k].2.size ≤ 300) : (L.take (k + 1)).all okF = true := by
  rw [take_next h, List.all_append, ha]
  simp [okF, h1, h2]
theorem keep_bad {L : List F} {k : Nat} (h : k < L.length) (h1 : ¬ (L[k].1.size ≤ 300 ∧ L[k].2.size ≤ 300)) : keepF L = false := by
  have : L.all okF = false := by
    rw [← Bool.not_eq_true]; intro ha
    have := List.all_eq_true.mp ha L[k] (List.getElem_mem h)
    simp only [okF, Bool.and_eq_true, decide_eq_true_eq] at this
    exact h1 this
  unfold keepF; rw [this]; rfl
theorem keep_long {L : List F} (h : ¬ L.length ≤ 70) : keepF L = false := by unfold keepF; simp [h]
theorem keep_end {L : List F} (ha : (L.take L.length).all okF = true) (h : L.length ≤ 70) : keepF L = true := by
  rw [List.take_length] at ha
  unfold keepF; rw [ha]; simp [h]
theorem keep_parts {L : List F} (h : keepF L = true) : L.length ≤ 70 ∧ ∀ i (hi : i < L.length), L[i].1.size ≤ 300 ∧ L[i].2.size ≤ 300 := by
  unfold keepF at h
  simp only [Bool.and_eq_true, decide_eq_true_eq] at h
  refine ⟨h.2, fun i hi => ?_⟩
  have := List.all_eq_true.mp h.1 L[i] (List.getElem_mem hi)
  simpa [okF] using this
/-- the place of the first one with the name, or -1 -/
def idxL (nm : ByteArray) (L : List F) : Int := if L.any (nmd nm) then ((L.takeWhile fun p => !nmd nm p).length : Int) else -1
theorem none_not {nm : ByteArray} {l : List F} (h : l.any (nmd nm) = false) : ∀ p ∈ l, nmd nm p = false := fun p hp => by
  have := List.any_eq_false.mp h p hp; simpa using this
theorem none_more {nm : ByteArray} {L : List F} {k : Nat} (h : k < L.length) (ha : (L.take k).any (nmd nm) = false) (h1 : nmd nm L[k] = false) : (L.take (k + 1)).any (nmd nm) = false := by
  rw [take_next h, List.any_append, ha]; simp [h1]
theorem split_at {α : Type} {L : List α} {k : Nat} (h : k < L.length) : L = L.take k ++ L[k] :: L.drop (k + 1) := by
  rw [← List.drop_eq_getElem_cons h, List.take_append_drop]
theorem while_not {nm : ByteArray} {l r : List F} (h : l.any (nmd nm) = false) : (l ++ r).takeWhile (fun p => !nmd nm p) = l ++ r.takeWhile (fun p => !nmd nm p) :=
  List.takeWhile_append_of_pos (fun p hp => by rw [none_not h p hp]; rfl)
theorem idx_hit {nm : ByteArray} {L : List F} {k : Nat} (h : k < L.length) (ha : (L.take k).any (nmd nm) = false) (h1 : nmd nm L[k] = true) : idxL nm L = k := by
  have e := split_at h
  have hany : L.any (nmd nm) = true := List.any_eq_true.mpr ⟨L[k], List.getElem_mem h, h1⟩
  unfold idxL
  rw [if_pos hany]
  have : (L.takeWhile fun p => !nmd nm p) = L.take k := by
    conv => lhs; rw [e]
    rw [while_not ha, List.takeWhile_cons, h1]; simp
  rw [this, List.length_take, Nat.min_eq_left (Nat.le_of_lt h)]
theorem idx_end {nm : ByteArray} {L : List F} (ha : (L.take L.length).any (nmd nm) = false) : idxL nm L = -1 := by
  rw [List.take_length] at ha
  unfold idxL; rw [if_neg (by simp [ha])]
theorem idx_any {nm : ByteArray} {L : List F} : decide (0 ≤ idxL nm L) = L.any (nmd nm) := by
  unfold idxL
  rcases h : L.any (nmd nm) with _ | _ <;> simp
/-- the two ways of an index -/
theorem idx_ways (nm : ByteArray) (L : List F) : (idxL nm L = -1 ∧ L.any (nmd nm) = false) ∨ ∃ k : Nat, ∃ h : k < L.length, idxL nm L = k ∧ (L.take k).any (nmd nm) = false ∧ nmd nm L[k] = true := by
  rcases h : L.any (nmd nm) with _ | _
  · exact .inl ⟨by unfold idxL; rw [if_neg (by simp [h])], rfl⟩
  · right
    obtain ⟨k, hk, h1, h2⟩ : ∃ k, ∃ hk : k < L.length, nmd nm L[k] = true ∧ (L.take k).any (nmd nm) = false := by
      induction L with
      | nil => cases h
      | cons p L ih =>
        rcases hp : nmd nm p with _ | _
        · rw [List.any_cons, hp, Bool.false_or] at h
          obtain ⟨k, hk, h1, h2⟩ := ih h
          exact ⟨k + 1, by simpa using hk, by simpa using h1, by rw [List.take_succ_cons, List.any_cons, hp, h2]; rfl⟩
        · exact ⟨0, by simp, by simpa using hp, rfl⟩
    exact ⟨k, hk, idx_hit hk h2 h1, h2, h1⟩
end
section
def allF (vs : List ByteArray) : List (List UInt8) := vs.flatMap fun v => splitL v.data.toList
def allL (nm : ByteArray) (L : List F) : List (List UInt8) := (allF (getL nm L)).take 64
theorem take_two {α : Type} (A B : List α) (n : Nat) : (A.take n ++ B.take n).take n = (A ++ B).take n := by
  rw [List.take_append, List.take_append, List.take_take, Nat.min_self, List.length_take]
  by_cases h : A.length ≤ n
  · rw [Nat.min_eq_right h, List.take_take, Nat.min_eq_left (by omega)]
  · have e1 : n - min n A.length = 0 := by omega
    have e2 : n - A.length = 0 := by omega
    rw [e1, e2]; simp
/-- the members so far, of the first k pieces -/
theorem mem_more {ps : List (List UInt8)} {k : Nat} (h : k < ps.length) : memL (ps.take (k + 1)) = memL (ps.take k) ++ (if trimL ps[k] = [] then [] else [trimL ps[k]]) := by
  rw [List.take_add_one, List.getElem?_eq_getElem h]
  simp only [Option.toList_some]
  rw [memL_append]
  congr 1
  split
  · rename_i e; unfold memL; simp [e]
  · rename_i e; exact memL_one e
theorem mem_full {ps : List (List UInt8)} {k : Nat} (h : (memL (ps.take k)).length = 64) : (memL ps).take 64 = memL (ps.take k) := by
  have e := List.take_append_drop k ps
  have : memL ps = memL (ps.take k) ++ memL (ps.drop k) := by rw [← memL_append, e]
  rw [this, List.take_append_of_le_length (by omega), List.take_of_length_le (by omega)]
theorem mem_end {ps : List (List UInt8)} {k : Nat} (h : ps.length ≤ k) (h2 : (memL (ps.take k)).length ≤ 64) : (memL ps).take 64 = memL (ps.take k) := by
  rw [List.take_of_length_le h] at h2 ⊢
  exact List.take_of_length_le h2
theorem allF_more {vs : List ByteArray} {k : Nat} (h : k < vs.length) : (allF (vs.take (k + 1))).take 64 = ((allF (vs.take k)).take 64 ++ splitL vs[k].data.toList).take 64 := by
  have e : vs.take (k + 1) = vs.take k ++ [vs[k]] := by rw [List.take_add_one, List.getElem?_eq_getElem h]; rfl
  rw [e]
  unfold allF
  rw [List.flatMap_append]
  simp only [List.flatMap_cons, List.flatMap_nil, List.append_nil]
  have hs : splitL vs[k].data.toList = (splitL vs[k].data.toList).take 64 := by
    rw [List.take_of_length_le]; unfold splitL; rw [List.length_take]; omega
  have t := take_two (vs.take k |>.flatMap fun v => splitL v.data.toList) (splitL vs[k].data.toList) 64
  rw [← hs] at t
  exact t.symm
theorem split_len (l : List UInt8) : (splitL l).length ≤ 64 := by unfold splitL; rw [List.length_take]; omega
/-- sizes: a piece is no longer than the list, nor is a member -/
theorem cut_small {sep : UInt8} : ∀ (f : Nat) (q : Bool) (l acc : List UInt8), ∀ p ∈ cutF sep f q l acc, p.length ≤ acc.length + l.length
  | f, q, [], acc, p, hp => by rw [cutF_nil, List.mem_singleton] at hp; subst hp; simp
  | 0, q, c :: r, acc, p, hp => by
    unfold cutF at hp
    rw [List.mem_singleton] at hp; subst hp; simp
  | f + 1, q, c :: r, acc, p, hp => by
    rw [cutF_cons] at hp
    simp only [List.length_cons]
    split at hp
    · match r, hp with
      | [], hp => simp only [List.mem_singleton] at hp; subst hp; simp
      | d :: r2, hp =>
        have := cut_small f q r2 _ p hp
        simp only [List.length_append, List.length_cons, List.length_nil] at this ⊢; omega
    · split at hp
      · have := cut_small f (!q) r _ p hp
        simp only [List.length_append, List.length_cons, List.length_nil] at this ⊢; omega
      · split at hp
        · rcases List.mem_cons.mp hp with e | hp
          · subst e; omega
          · have := cut_small f q r [] p hp
            simp only [List.length_nil] at this; omega
        · have := cut_small f q r _ p hp
          simp only [List.length_append, List.length_cons, List.length_nil] at this ⊢; omega
theorem cut_count {sep : UInt8} : ∀ (f : Nat) (q : Bool) (l acc : List UInt8), (cutF sep f q l acc).length ≤ l.length + 1
  | f, q, [], acc => by rw [cutF_nil]; simp
  | 0, q, c :: r, acc => by unfold cutF; simp
  | f + 1, q, c :: r, acc => by
    rw [cutF_cons]
    simp only [List.length_cons]
    split
    · match r with
      | [] => simp
      | d :: r2 =>
        have := cut_count (sep := sep) f q r2 (acc ++ [c, d])
        simp only [List.length_cons] at this ⊢; omega
    · split
      · have := cut_count (sep := sep) f (!q) r (acc ++ [c]); omega
      · split
        · have := cut_count (sep := sep) f q r []
          simp only [List.length_cons] at this ⊢; omega
        · have := cut_count (sep := sep) f q r (acc ++ [c]); omega
/-- joined, one after another -/
def joinP : List (List UInt8) → List UInt8 → List UInt8
  | [], acc => acc
  | m :: ms, acc => joinP ms (acc ++ [44, 32] ++ m)
theorem joinP_app : ∀ (ms : List (List UInt8)) (acc : List UInt8), joinP ms acc = acc ++ ms.flatMap (fun m => [44, 32] ++ m)
  | [], acc => by simp [joinP]
  | m :: ms, acc => by rw [joinP, joinP_app ms]; simp
theorem joinL_cons (m : List UInt8) : ∀ ms : List (List UInt8), joinC (m :: ms) = joinP ms m
  | [] => rfl
  | m2 :: ms => by
    rw [joinP_app]
    show m ++ [44, 32] ++ joinC (m2 :: ms) = _
    rw [joinL_cons m2 ms, joinP_app]; simp
theorem joinC_more {ms : List (List UInt8)} {k : Nat} (h : k < ms.length) : joinC (ms.take (k + 1)) = if k = 0 then ms[k] else joinC (ms.take k) ++ [44, 32] ++ ms[k] := by
  match ms, k, h with
  | m :: ms, 0, h => rfl
  | m :: ms, k + 1, h =>
    simp only [List.length_cons] at h
    have hk : k < ms.length := by omega
    rw [if_neg (by omega), List.take_succ_cons, List.take_succ_cons, joinL_cons, joinL_cons, joinP_app, joinP_app, List.take_add_one, List.getElem?_eq_getElem hk, List.flatMap_append]
    simp
end
section
/-- where a cut stands: at place k, the piece begun at place n -/
def cutAt (sep : UInt8) (l : List UInt8) (q : Bool) (k n : Nat) : List (List UInt8) := cutF sep (l.length - k) q (l.drop k) ((l.take k).drop n)
theorem cut_start (sep : UInt8) (l : List UInt8) : cutL sep l = cutAt sep l false 0 0 := by unfold cutL cutAt; simp
theorem acc_next {l : List UInt8} {k n : Nat} (hk : k < l.length) (hn : n ≤ k) : (l.take k).drop n ++ [l[k]] = (l.take (k + 1)).drop n := by
  rw [List.take_add_one, List.getElem?_eq_getElem hk, List.drop_append_of_le_length (by rw [List.length_take]; omega)]; rfl
theorem cut_fuel1 {l : List UInt8} {k : Nat} (hk : k < l.length) : l.length - k = (l.length - (k + 1)) + 1 := by omega
theorem cut_drop {l : List UInt8} {k : Nat} (hk : k < l.length) : l.drop k = l[k] :: l.drop (k + 1) := List.drop_eq_getElem_cons hk
theorem cut_out {sep : UInt8} {l : List UInt8} {q : Bool} {k n : Nat} (hk : l.length ≤ k) : cutAt sep l q k n = [l.drop n] := by
  unfold cutAt; rw [List.drop_of_length_le hk, cutF_nil, List.take_of_length_le hk]
theorem cut_esc {sep : UInt8} {l : List UInt8} {k n : Nat} (hk : k < l.length) (hn : n ≤ k) (h : l[k] = 92) : cutAt sep l true k n = cutAt sep l true (k + 2) n := by
  unfold cutAt
  rw [cut_fuel1 hk, cut_drop hk, cutF_cons, if_pos ⟨rfl, h⟩]
  by_cases h2 : k + 1 < l.length
  · rw [cut_drop h2]
    simp only
    have e : (l.take k).drop n ++ [l[k], l[k + 1]] = (l.take (k + 2)).drop n := by
      rw [← acc_next h2 (by omega), ← acc_next hk hn, List.append_assoc]; rfl
    rw [e]
    exact cutF_fuel _ _ _ _ _ (by rw [List.length_drop]; omega) (by rw [List.length_drop]; omega)
  · have e1 : l.drop (k + 1) = [] := List.drop_of_length_le (by omega)
    have e2 : l.drop (k + 2) = [] := List.drop_of_length_le (by omega)
    have e3 : l.take (k + 2) = l.take (k + 1) := by rw [List.take_of_length_le (by omega), List.take_of_length_le (by omega)]
    rw [e1, e2, cutF_nil, e3, ← acc_next hk hn]
theorem cut_quo {sep : UInt8} {l : List UInt8} {q : Bool} {k n : Nat} (hk : k < l.length) (hn : n ≤ k) (h1 : ¬ (q = true ∧ l[k] = 92)) (h : l[k] = 34) : cutAt sep l q k n = cutAt sep l (!q) (k + 1) n := by
  unfold cutAt
  rw [cut_fuel1 hk, cut_drop hk, cutF_cons, if_neg h1, if_pos h, acc_next hk hn]
theorem cut_sep {sep : UInt8} {l : List UInt8} {k n : Nat} (hk : k < l.length) (h2 : l[k] ≠ 34) (h : l[k] = sep) : cutAt sep l false k n = (l.take k).drop n :: cutAt sep l false (k + 1) (k + 1) := by
  unfold cutAt
  rw [cut_fuel1 hk, cut_drop hk, cutF_cons, if_neg (by simp), if_neg h2, if_pos ⟨h, rfl⟩, List.drop_of_length_le (l := l.take (k + 1)) (by rw [List.length_take]; omega)]
theorem cut_any {sep : UInt8} {l : List UInt8} {q : Bool} {k n : Nat} (hk : k < l.length) (hn : n ≤ k) (h1 : ¬ (q = true ∧ l[k] = 92)) (h2 : l[k] ≠ 34) (h : ¬ (l[k] = sep ∧ q = false)) : cutAt sep l q k n = cutAt sep l q (k + 1) n := by
  unfold cutAt
  rw [cut_fuel1 hk, cut_drop hk, cutF_cons, if_neg h1, if_neg h2, if_neg h, acc_next hk hn]
end
section
/-- a parameter: name, '=', a token or a quoted string -/
def paramL (x : List UInt8) : Option F :=
  if cutB 61 x = false ∨ tokL (cut1 61 x) = false then none
  else if tokL (cut2 61 x) = true then some (bs (lowL (cut1 61 x)), bs (cut2 61 x))
  else match unqL (cut2 61 x) with
    | some u => some (bs (lowL (cut1 61 x)), bs u)
    | none => none
/-- the parameters of pieces; those before them -/
def parF : List (List UInt8) → List F → Option (List F)
  | [], acc => some acc
  | p :: ps, acc => if trimL p = [] then parF ps acc else match paramL (trimL p) with
    | some f => parF ps (acc ++ [f])
    | none => none
def parL (s : List UInt8) : Option (List UInt8 × List F) := match cutL 59 s with
  | [] => none
  | v :: ps => if trimL v = [] then none else match parF ps [] with
    | some L => some (trimL v, L)
    | none => none
def valP (v : List UInt8) : List UInt8 := if tokL v = true then v else quoteL v
def oneP (p : F) : List UInt8 := p.1.data.toList ++ 61 :: valP p.2.data.toList
def fmtPL (v : List UInt8) (L : List F) : List UInt8 := v ++ L.flatMap fun p => 59 :: oneP p
/-- is a byte behind the list within a quoted string? (as endF, with its own length) -/
def endQ (q : Bool) (l : List UInt8) : Bool := endF l.length q l
theorem endF_fuel : ∀ (f g : Nat) (q : Bool) (l : List UInt8), l.length ≤ f → l.length ≤ g → endF f q l = endF g q l := by
  intro f
  induction f with
  | zero => intro g q l hf hg; have : l = [] := List.eq_nil_of_length_eq_zero (by omega); subst this; rw [endF_nil, endF_nil]
  | succ f ih =>
    intro g q l hf hg
    match l, g with
    | [], g => rw [endF_nil, endF_nil]
    | c :: r, 0 => simp at hg
    | c :: r, g + 1 =>
      simp only [List.length_cons] at hf hg
      rw [endF_cons, endF_cons]
      split
      · match r, hf, hg with
        | [], _, _ => rfl
        | d :: r2, hf, hg =>
          simp only [List.length_cons] at hf hg
          exact ih g q r2 (by omega) (by omega)
      · split
        · exact ih g (!q) r (by omega) (by omega)
        · exact ih g q r (by omega) (by omega)
theorem endL_esc (d : UInt8) (r : List UInt8) : endQ true (92 :: d :: r) = endQ true r := by
  unfold endQ
  show endF (r.length + 1 + 1) true (92 :: d :: r) = _
  rw [endF_cons, if_pos ⟨rfl, rfl⟩]
  exact endF_fuel _ _ _ _ (by omega) (by omega)
theorem endL_quo {q : Bool} {c : UInt8} {r : List UInt8} (h1 : ¬ (q = true ∧ c = 92)) (h : c = 34) : endQ q (c :: r) = endQ (!q) r := by
  unfold endQ
  show endF (r.length + 1) q (c :: r) = _
  rw [endF_cons, if_neg h1, if_pos h]
theorem endL_any {q : Bool} {c : UInt8} {r : List UInt8} (h1 : ¬ (q = true ∧ c = 92)) (h : c ≠ 34) : endQ q (c :: r) = endQ q r := by
  unfold endQ
  show endF (r.length + 1) q (c :: r) = _
  rw [endF_cons, if_neg h1, if_neg h]
/-- what has been escaped, a quote behind it, leads out of the quoted string -/
theorem end_quoted (y : List UInt8) : ∀ l : List UInt8, endQ true (escL l ++ 34 :: y) = endQ false y
  | [] => endL_quo (by simp) rfl
  | c :: r => by
    have e : escL (c :: r) = escB c ++ escL r := rfl
    rw [e]
    unfold escB
    by_cases h : c = 34 ∨ c = 92
    · rw [if_pos h]
      show endQ true (92 :: c :: (escL r ++ 34 :: y)) = _
      rw [endL_esc]; exact end_quoted y r
    · rw [if_neg h]
      show endQ true (c :: (escL r ++ 34 :: y)) = _
      rw [endL_any (fun q => h (.inr q.2)) (fun q => h (.inl q))]; exact end_quoted y r
theorem nc_quoted (sep : UInt8) (y : List UInt8) : ∀ l : List UInt8, ncL sep true (escL l ++ 34 :: y) = ncL sep false y
  | [] => nc_quo (by simp) rfl
  | c :: r => by
    have e : escL (c :: r) = escB c ++ escL r := rfl
    rw [e]
    unfold escB
    by_cases h : c = 34 ∨ c = 92
    · rw [if_pos h]
      show ncL sep true (92 :: c :: (escL r ++ 34 :: y)) = _
      rw [nc_esc ⟨rfl, rfl⟩]; exact nc_quoted sep y r
    · rw [if_neg h]
      show ncL sep true (c :: (escL r ++ 34 :: y)) = _
      rw [nc_any (fun q => h (.inr q.2)) (fun q => h (.inl q)) (by simp)]; exact nc_quoted sep y r
/-- a piece: no separator outside quoted strings, none of which is open at its end -/
def Piece (sep : UInt8) (p : List UInt8) : Prop := ncL sep false p = true ∧ endQ false p = false
theorem Piece.nil (sep : UInt8) : Piece sep [] := ⟨rfl, rfl⟩
theorem Piece.cons {sep c : UInt8} {p : List UInt8} (h1 : c ≠ 34) (h2 : c ≠ sep) (h : Piece sep p) : Piece sep (c :: p) :=
  ⟨by rw [nc_any (by simp) h1 (fun q => h2 q.1)]; exact h.1, by rw [endL_any (by simp) h1]; exact h.2⟩
theorem Piece.plain {sep : UInt8} : ∀ {a p : List UInt8}, (∀ c ∈ a, c ≠ 34 ∧ c ≠ sep) → Piece sep p → Piece sep (a ++ p)
  | [], p, _, h => h
  | c :: r, p, ha, h => Piece.cons (ha c (by simp)).1 (ha c (by simp)).2 (Piece.plain (fun d hd => ha d (by simp [hd])) h)
theorem Piece.quote (sep : UInt8) (l : List UInt8) {p : List UInt8} (h : Piece sep p) : Piece sep (quoteL l ++ p) := by
  have e : quoteL l ++ p = 34 :: (escL l ++ 34 :: p) := by unfold quoteL; simp
  rw [e]
  exact ⟨by rw [nc_quo (by simp) rfl]; exact (nc_quoted sep p l).trans h.1, by rw [endL_quo (by simp) rfl]; exact (end_quoted p l).trans h.2⟩
theorem cut_piece {sep : UInt8} {a : List UInt8} (h : Piece sep a) : cutL sep a = [a] := by
  unfold cutL; rw [nc_cut _ false _ [] (Nat.le_refl _) h.1]; rfl
theorem cut_pieces {sep : UInt8} (hs : sep ≠ 34 ∧ sep ≠ 92) {a : List UInt8} (b : List UInt8) (h : Piece sep a) : cutL sep (a ++ sep :: b) = a :: cutL sep b := by
  have e := cutF_app hs a.length false a b [] (Nat.le_refl _) h.2
  have h1 := cut_piece h
  unfold cutL at h1 ⊢
  rw [h1] at e
  rw [List.length_append, List.length_cons, show a.length + (b.length + 1) = a.length + 1 + b.length from by omega, e]; rfl
theorem tok_byte {l : List UInt8} (h : tokL l = true) : ∀ c ∈ l, tokI c.toNat = true := by
  unfold tokL at h
  rw [Bool.and_eq_true] at h
  exact fun c hc => List.all_eq_true.mp h.2 c hc
theorem tok_ne {l : List UInt8} (h : tokL l = true) : l ≠ [] := by
  unfold tokL at h
  intro e; rw [e] at h; simp at h
def tokChk (n : Nat) : Bool := !tokI (n : Int) || (UInt8.ofNat n != 34 && UInt8.ofNat n != 59 && UInt8.ofNat n != 61 && UInt8.ofNat n != 44 && !blankB (UInt8.ofNat n))
theorem tok_chk : ∀ x : Fin 256, tokChk x.1 = true := by decide +kernel
theorem tok_chk2 (c : UInt8) : tokChk c.toNat = true := by
  have hc : c.toNat < 256 := c.toNat_lt
  generalize c.toNat = n at hc ⊢
  exact tok_chk ⟨n, hc⟩
theorem tok_not {c : UInt8} (h : tokI c.toNat = true) : c ≠ 34 ∧ c ≠ 59 ∧ c ≠ 61 ∧ c ≠ 44 ∧ blankB c = false := by
  have k := tok_chk2 c
  unfold tokChk at k
  rw [h, UInt8.ofNat_toNat] at k
  simp only [Bool.not_true, Bool.false_or, Bool.and_eq_true, bne_iff_ne, Bool.not_eq_true'] at k
  obtain ⟨⟨⟨⟨k1, k2⟩, k3⟩, k4⟩, k5⟩ := k
  exact ⟨k1, k2, k3, k4, k5⟩
theorem quote_tok (l : List UInt8) : tokL (quoteL l) = false := by
  rcases h : tokL (quoteL l) with _ | _
  · rfl
  · exfalso
    have := tok_byte h 34 (by unfold quoteL; simp)
    exact absurd this (by decide)
theorem val_tok {v : List UInt8} (h : tokL v = true) : valP v = v := by unfold valP; rw [if_pos h]
theorem val_not {v : List UInt8} (h : tokL v = false) : valP v = quoteL v := by unfold valP; rw [h]; rfl
theorem Piece.val (v : List UInt8) {p : List UInt8} (h : Piece 59 p) : Piece 59 (valP v ++ p) := by
  rcases hv : tokL v with _ | _
  · rw [val_not hv]; exact Piece.quote 59 v h
  · rw [val_tok hv]
    exact Piece.plain (fun c hc => ⟨(tok_not (tok_byte hv c hc)).1, (tok_not (tok_byte hv c hc)).2.1⟩) h
theorem Piece.tok {v : List UInt8} (hv : tokL v = true) {p : List UInt8} (h : Piece 59 p) : Piece 59 (v ++ p) :=
  Piece.plain (fun c hc => ⟨(tok_not (tok_byte hv c hc)).1, (tok_not (tok_byte hv c hc)).2.1⟩) h
theorem piece_one {n v : List UInt8} (hn : tokL n = true) : Piece 59 (n ++ 61 :: valP v) := by
  have h := Piece.val v (Piece.nil 59)
  rw [List.append_nil] at h
  exact Piece.tok hn (Piece.cons (by decide) (by decide) h)
/-- a parameter as it is written is read -/
theorem param_read {n v : List UInt8} (hn : tokL n = true) (ht : textL v = true) : paramL (n ++ 61 :: valP v) = some (bs (lowL n), bs v) := by
  obtain ⟨h1, h2, h3⟩ := cut_app (c := 61) (a := n) (b := valP v) (fun hc => (tok_not (tok_byte hn 61 hc)).2.2.1 rfl)
  unfold paramL
  rw [h1, h2, h3, if_neg (by rintro (q | q) <;> simp_all)]
  rcases hv : tokL v with _ | _
  · rw [val_not hv, if_neg (by rw [quote_tok]; simp), unq_quote_text ht]
  · rw [val_tok hv, if_pos hv]
theorem last_val (v : List UInt8) : ∀ c r, valP v = r ++ [c] → blankB c = false := by
  intro c r h
  rcases hv : tokL v with _ | _
  · rw [val_not hv] at h
    unfold quoteL at h
    have e : (34 :: (escL v ++ [34])).getLast? = (r ++ [c]).getLast? := by rw [h]
    rw [show (34 :: (escL v ++ [34])) = (34 :: escL v) ++ [34] from rfl, List.getLast?_append, List.getLast?_append] at e
    simp at e
    subst e; decide
  · rw [val_tok hv] at h
    exact (tok_not (tok_byte hv c (by rw [h]; simp))).2.2.2.2
theorem val_ne (v : List UInt8) : valP v ≠ [] := by
  rcases hv : tokL v with _ | _
  · rw [val_not hv]; unfold quoteL; simp
  · rw [val_tok hv]; exact tok_ne hv
/-- .. and is its own Trim, blanks around it or not -/
theorem trim_one {n v a b : List UInt8} (hn : tokL n = true) (ha : ∀ c ∈ a, blankB c = true) (hb : ∀ c ∈ b, blankB c = true) : trimL (a ++ ((n ++ 61 :: valP v) ++ b)) = n ++ 61 :: valP v := by
  refine trim_char a (n ++ 61 :: valP v) b ha hb ?_ ?_
  · intro c r h
    match n, hn, h with
    | d :: n', hn, h =>
      simp only [List.cons_append, List.cons.injEq] at h
      obtain ⟨rfl, _⟩ := h
      exact (tok_not (tok_byte hn _ (by simp))).2.2.2.2
    | [], hn, _ => exact absurd rfl (tok_ne hn)
  · intro c r h
    have e : (n ++ 61 :: valP v).getLast? = (r ++ [c]).getLast? := by rw [h]
    have e2 : (valP v).getLast? = some c := by
      rw [show n ++ 61 :: valP v = (n ++ [61]) ++ valP v from by simp, List.getLast?_append, List.getLast?_append] at e
      cases hl : (valP v).getLast? with
      | none => exact absurd (List.getLast?_eq_none_iff.mp hl) (val_ne v)
      | some d => rw [hl] at e; simpa using e
    obtain ⟨r2, hr2⟩ := List.getLast?_eq_some_iff.mp e2
    exact last_val v c r2 hr2
theorem trim_tok {v a b : List UInt8} (hv : tokL v = true) (ha : ∀ c ∈ a, blankB c = true) (hb : ∀ c ∈ b, blankB c = true) : trimL (a ++ (v ++ b)) = v :=
  trim_char a v b ha hb (fun c r h => (tok_not (tok_byte hv c (by rw [h]; simp))).2.2.2.2) (fun c r h => (tok_not (tok_byte hv c (by rw [h]; simp))).2.2.2.2)
end
section
theorem sep59 : (59 : UInt8) ≠ 34 ∧ (59 : UInt8) ≠ 92 := by decide
theorem cut_fmt : ∀ (L : List F) (a : List UInt8), Piece 59 a → (∀ p ∈ L, tokL p.1.data.toList = true) → cutL 59 (a ++ L.flatMap fun p => 59 :: oneP p) = a :: L.map oneP
  | [], a, h, _ => by simp only [List.flatMap_nil, List.append_nil, List.map_nil]; exact cut_piece h
  | p :: L, a, h, hL => by
    have e : a ++ (p :: L).flatMap (fun p => 59 :: oneP p) = a ++ 59 :: (oneP p ++ L.flatMap fun p => 59 :: oneP p) := by simp
    rw [e, cut_pieces sep59 _ h, cut_fmt L (oneP p) (piece_one (hL p (by simp))) (fun q hq => hL q (by simp [hq]))]
    rfl
theorem one_ne (p : F) : oneP p ≠ [] := by unfold oneP; simp
theorem parF_step {p : List UInt8} {ps : List (List UInt8)} {acc : List F} {f : F} (h0 : trimL p ≠ []) (h : paramL (trimL p) = some f) : parF (p :: ps) acc = parF ps (acc ++ [f]) := by
  show (if trimL p = [] then parF ps acc else match paramL (trimL p) with | some f => parF ps (acc ++ [f]) | none => none) = _
  rw [if_neg h0, h]
theorem parF_skip {p : List UInt8} {ps : List (List UInt8)} {acc : List F} (h0 : trimL p = []) : parF (p :: ps) acc = parF ps acc := by
  show (if trimL p = [] then parF ps acc else match paramL (trimL p) with | some f => parF ps (acc ++ [f]) | none => none) = _
  rw [if_pos h0]
theorem parF_ones : ∀ (L : List F) (acc : List F), (∀ p ∈ L, tokL p.1.data.toList = true ∧ lowL p.1.data.toList = p.1.data.toList ∧ textL p.2.data.toList = true) → parF (L.map oneP) acc = some (acc ++ L)
  | [], acc, _ => by simp [parF]
  | p :: L, acc, h => by
    obtain ⟨h1, h2, h3⟩ := h p (by simp)
    have ht : trimL (oneP p) = oneP p := by
      have := trim_one (n := p.1.data.toList) (v := p.2.data.toList) (a := []) (b := []) h1 (by simp) (by simp)
      rw [List.nil_append, List.append_nil] at this
      exact this
    have hp : paramL (trimL (oneP p)) = some p := by
      rw [ht]
      have := param_read (n := p.1.data.toList) (v := p.2.data.toList) h1 h3
      rw [h2] at this
      exact this
    rw [List.map_cons, parF_step (by rw [ht]; exact one_ne p) hp, parF_ones L _ (fun q hq => h q (by simp [hq]))]
    simp
end
section
def parA (l : List UInt8) : ByteArray := match parL l with | some (v, _) => bs v | none => ⟨#[]⟩
def parB (l : List UInt8) : List F := match parL l with | some (_, L) => L | none => []
def parO (l : List UInt8) : Bool := (parL l).isSome
theorem cutF_ne {sep : UInt8} : ∀ (f : Nat) (q : Bool) (l acc : List UInt8), cutF sep f q l acc ≠ []
  | f, q, [], acc => by rw [cutF_nil]; simp
  | 0, q, c :: r, acc => by unfold cutF; simp
  | f + 1, q, c :: r, acc => by
    rw [cutF_cons]
    split
    · match r with
      | [] => simp
      | d :: r2 => exact cutF_ne f q r2 _
    · split
      · exact cutF_ne f (!q) r _
      · split
        · simp
        · exact cutF_ne f q r _
theorem cut_first (sep : UInt8) (l : List UInt8) : ∃ v ps, cutL sep l = v :: ps := by
  cases h : cutL sep l with
  | nil => exact absurd h (cutF_ne _ _ _ _)
  | cons v ps => exact ⟨v, ps, rfl⟩
theorem par_none0 {l v : List UInt8} {ps : List (List UInt8)} (h : cutL 59 l = v :: ps) (ht : trimL v = []) : parA l = ⟨#[]⟩ ∧ parB l = [] ∧ parO l = false := by
  unfold parA parB parO parL; rw [h]; simp only; rw [if_pos ht]; exact ⟨rfl, rfl, rfl⟩
theorem par_none1 {l v : List UInt8} {ps : List (List UInt8)} (h : cutL 59 l = v :: ps) (ht : trimL v ≠ []) (hp : parF ps [] = none) : parA l = ⟨#[]⟩ ∧ parB l = [] ∧ parO l = false := by
  unfold parA parB parO parL; rw [h]; simp only; rw [if_neg ht, hp]; exact ⟨rfl, rfl, rfl⟩
theorem par_some {l v : List UInt8} {ps : List (List UInt8)} {L : List F} (h : cutL 59 l = v :: ps) (ht : trimL v ≠ []) (hp : parF ps [] = some L) : parA l = bs (trimL v) ∧ parB l = L ∧ parO l = true := by
  unfold parA parB parO parL; rw [h]; simp only; rw [if_neg ht, hp]; exact ⟨rfl, rfl, rfl⟩
theorem parF_bad {p : List UInt8} {ps : List (List UInt8)} {acc : List F} (h0 : trimL p ≠ []) (h : paramL (trimL p) = none) : parF (p :: ps) acc = none := by
  show (if trimL p = [] then parF ps acc else match paramL (trimL p) with | some f => parF ps (acc ++ [f]) | none => none) = _
  rw [if_neg h0, h]
/-- one parameter, by the place of its '=' -/
theorem param_no {x : List UInt8} (h : Lib.indexByte x 61 = -1) : paramL x = none := by
  unfold paramL; rw [if_pos (.inl (cut_no h).2.2)]
theorem param_name {x : List UInt8} {o : Nat} (h : Lib.indexByte x 61 = (o : Int)) (ht : tokL (x.take o) = false) : paramL x = none := by
  obtain ⟨_, h1, _, _⟩ := cut_at h
  unfold paramL; rw [h1, if_pos (.inr ht)]
theorem param_tok {x : List UInt8} {o : Nat} (h : Lib.indexByte x 61 = (o : Int)) (ht : tokL (x.take o) = true) (hv : tokL (x.drop (o + 1)) = true) : paramL x = some (bs (lowL (x.take o)), bs (x.drop (o + 1))) := by
  obtain ⟨_, h1, h2, h3⟩ := cut_at h
  unfold paramL; rw [h1, h2, h3, if_neg (by rw [ht]; simp), if_pos hv]
theorem param_bad {x : List UInt8} {o : Nat} (h : Lib.indexByte x 61 = (o : Int)) (ht : tokL (x.take o) = true) (hv : tokL (x.drop (o + 1)) = false) (hu : unqL (x.drop (o + 1)) = none) : paramL x = none := by
  obtain ⟨_, h1, h2, h3⟩ := cut_at h
  unfold paramL; rw [h1, h2, h3, if_neg (by rw [ht]; simp), if_neg (by rw [hv]; simp), hu]
theorem param_quo {x u : List UInt8} {o : Nat} (h : Lib.indexByte x 61 = (o : Int)) (ht : tokL (x.take o) = true) (hv : tokL (x.drop (o + 1)) = false) (hu : unqL (x.drop (o + 1)) = some u) : paramL x = some (bs (lowL (x.take o)), bs u) := by
  obtain ⟨_, h1, h2, h3⟩ := cut_at h
  unfold paramL; rw [h1, h2, h3, if_neg (by rw [ht]; simp), if_neg (by rw [hv]; simp), hu]
end
section
/-- type, sub, parameters -/
abbrev M := ByteArray × ByteArray × List F
def typeL (v : List UInt8) : Option (ByteArray × ByteArray) :=
  if cutB 47 v = false then none
  else if tokL (cut1 47 v) = false then none
  else if tokL (cut2 47 v) = false then none
  else if cut1 47 v = [42] ∧ cut2 47 v ≠ [42] then none
  else some (bs (lowL (cut1 47 v)), bs (lowL (cut2 47 v)))
def rangeL (s : List UInt8) : Option M := match parL s with
  | none => none
  | some (v, L) => match typeL v with
    | none => none
    | some (a, b) => some (a, b, L)
def star : ByteArray := ⟨#[42]⟩
def mediaL (s : List UInt8) : Option M := match rangeL s with
  | none => none
  | some (a, b, L) => if a = star ∨ b = star then none else some (a, b, L)
def noM : M := (⟨#[]⟩, ⟨#[]⟩, [])
/-- the results in parts -/
def ofM (o : Option M) : M := o.getD noM
theorem type_no {v : List UInt8} (h : Lib.indexByte v 47 = -1) : typeL v = none := by
  unfold typeL; rw [if_pos (cut_no h).2.2]
theorem type_tok1 {v : List UInt8} {o : Nat} (h : Lib.indexByte v 47 = (o : Int)) (h1 : tokL (v.take o) = false) : typeL v = none := by
  obtain ⟨_, e1, e2, e3⟩ := cut_at h
  unfold typeL; rw [e1, e3, if_neg (by simp), if_pos h1]
theorem type_tok2 {v : List UInt8} {o : Nat} (h : Lib.indexByte v 47 = (o : Int)) (h1 : tokL (v.take o) = true) (h2 : tokL (v.drop (o + 1)) = false) : typeL v = none := by
  obtain ⟨_, e1, e2, e3⟩ := cut_at h
  unfold typeL; rw [e1, e2, e3, if_neg (by simp), if_neg (by rw [h1]; simp), if_pos h2]
theorem type_star {v : List UInt8} {o : Nat} (h : Lib.indexByte v 47 = (o : Int)) (h1 : tokL (v.take o) = true) (h2 : tokL (v.drop (o + 1)) = true) (h3 : v.take o = [42] ∧ v.drop (o + 1) ≠ [42]) : typeL v = none := by
  obtain ⟨_, e1, e2, e3⟩ := cut_at h
  unfold typeL; rw [e1, e2, e3, if_neg (by simp), if_neg (by rw [h1]; simp), if_neg (by rw [h2]; simp), if_pos h3]
theorem type_ok {v : List UInt8} {o : Nat} (h : Lib.indexByte v 47 = (o : Int)) (h1 : tokL (v.take o) = true) (h2 : tokL (v.drop (o + 1)) = true) (h3 : ¬ (v.take o = [42] ∧ v.drop (o + 1) ≠ [42])) : typeL v = some (bs (lowL (v.take o)), bs (lowL (v.drop (o + 1)))) := by
  obtain ⟨_, e1, e2, e3⟩ := cut_at h
  unfold typeL; rw [e1, e2, e3, if_neg (by simp), if_neg (by rw [h1]; simp), if_neg (by rw [h2]; simp), if_neg h3]
theorem range_par {s : List UInt8} (h : parO s = false) : rangeL s = none := by
  unfold parO at h; unfold rangeL
  cases hp : parL s with
  | none => rfl
  | some x => rw [hp] at h; simp at h
theorem range_type {s : List UInt8} {v : ByteArray} (h : parO s = true) (hv : parA s = v) : rangeL s = (typeL v.data.toList).map fun p => (p.1, p.2, parB s) := by
  unfold parO at h; unfold rangeL; unfold parA at hv; unfold parB
  cases hp : parL s with
  | none => rw [hp] at h; simp at h
  | some x =>
    obtain ⟨a, L⟩ := x
    rw [hp] at hv
    simp only at hv ⊢
    subst hv
    rw [bs_toList]
    cases typeL a with
    | none => rfl
    | some p => rfl
end
end Go.Proofs.YtjjlgnackjjbfaaGreatDoor.Asc
