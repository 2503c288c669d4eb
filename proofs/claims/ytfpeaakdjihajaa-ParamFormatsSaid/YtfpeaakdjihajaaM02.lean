/- Merged texts: LstSpec LisSpec3 LisPc LisSpec4 AscBytes AscTok StaCut. -/
import Derived.Test.YtfpeaakdjihajaaRows
import Derived.Test.YtfpeaakdjihajaaM01
import Derived.Below
import Derived.BigQuiet
import Derived.Deep.QuietTactic
import Derived.Lib.Bytealg
import Derived.Lib.Hide
import Derived.LoopTactic
import Derived.Outline
import Derived.WalkKit
import Derived.WalkLawsBesides
import Derived.WalkSpells
set_option linter.unusedVariables false
set_option linter.unusedSimpArgs false
set_option maxRecDepth 100000
namespace Go.Proofs.Ytfpeaakdjihajaa.Asc
section
abbrev F := ByteArray × ByteArray
/-- has the name -/
def nmd (nm : ByteArray) (p : F) : Bool := foldL p.1.data.toList nm.data.toList
def getL (nm : ByteArray) (L : List F) : List ByteArray := (L.filter (nmd nm)).map (·.2)
def okF (p : F) : Bool := decide (p.1.size ≤ 300) && decide (p.2.size ≤ 300)
def keepF (L : List F) : Bool := L.all okF && decide (L.length ≤ 70)
theorem take_next {α : Type} {L : List α} {k : Nat} (h : k < L.length) : L.take (k + 1) = L.take k ++ [L[k]] := List.take_succ_eq_append_getElem h
theorem keep_more {L : List F} {k : Nat} (h : k < L.length) (ha : (L.take k).all okF = true) (h1 : L[k].1.size ≤ 300) (h2 : L[k].2.size ≤ 300) : (L.take (k + 1)).all okF = true := by
  rw [take_next h, List.all_append, ha]
  simp [okF, h1, h2]
theorem keep_bad {L : List F} {k : Nat} (h : k < L.length) (h1 : ¬ (L[k].1.size ≤ 300 ∧ L[k].2.size ≤ 300)) : keepF L = false := by
  have : L.all okF = false := by
    rw [← Bool.not_eq_true]; intro ha
    have := List.all_eq_true.mp ha L[k] (List.getElem_mem h)
    simp only [okF, Bool.and_eq_true, decide_eq_true_eq] at this
    exact h1 this
  unfold keepF; rw [this]; rfl
theorem keep_long {L : List F} (h : ¬ L.length ≤ 70) : keepF L = false := by unfold keepF; simp [h]
theorem keep_end {L : List F} (ha : (L.take L.length).all okF = true) (h : L.length ≤ 70) : keepF L = true := by
  rw [List.take_length] at ha
  unfold keepF; rw [ha]; simp [h]
theorem keep_parts {L : List F} (h : keepF L = true) : L.length ≤ 70 ∧ ∀ i (hi : i < L.length), L[i].1.size ≤ 300 ∧ L[i].2.size ≤ 300 := by
  unfold keepF at h
  simp only [Bool.and_eq_true, decide_eq_true_eq] at h
  refine ⟨h.2, fun i hi => ?_⟩
  have := List.all_eq_true.mp h.1 L[i] (List.getElem_mem hi)
  simpa [okF] using this
theorem split_at {α : Type} {L : List α} {k : Nat} (h : k < L.length) : L = L.take k ++ L[k] :: L.drop (k + 1) := by
  rw [← List.drop_eq_getElem_cons h, List.take_append_drop]
end
section
def allF (vs : List ByteArray) : List (List UInt8) := vs.flatMap fun v => splitL v.data.toList
def allL (nm : ByteArray) (L : List F) : List (List UInt8) := (allF (getL nm L)).take 64
theorem take_two {α : Type} (A B : List α) (n : Nat) : (A.take n ++ B.take n).take n = (A ++ B).take n := by
  rw [List.take_append, List.take_append, List.take_take, Nat.min_self, List.length_take]
  by_cases h : A.length ≤ n
  · rw [Nat.min_eq_right h, List.take_take, Nat.min_eq_left (by omega)]
  · have e1 : n - min n A.length = 0 := by omega
    have e2 : n - A.length = 0 := by omega
    rw [e1, e2]; simp
/-- for ListLines -/
theorem all_lines {nm o : ByteArray} {a b : ByteArray} (he : endF a.data.toList.length false a.data.toList = false) (hn : foldL nm.data.toList o.data.toList = false) :
    allL nm [(nm, a), (o, b), (⟨(lowL nm.data.toList).toArray⟩, b)] = splitL (a.data.toList ++ 44 :: b.data.toList) := by
  have g : getL nm [(nm, a), (o, b), (⟨(lowL nm.data.toList).toArray⟩, b)] = [a, b] := by
    have h1 : nmd nm (nm, a) = true := fold_refl _
    have h2 : nmd nm (o, b) = false := by show foldL o.data.toList nm.data.toList = false; rw [fold_symm]; exact hn
    have h3 : nmd nm ((⟨(lowL nm.data.toList).toArray⟩ : ByteArray), b) = true := by
      show foldL (lowL nm.data.toList) nm.data.toList = true
      rw [fold_symm]; exact fold_low _
    unfold getL
    simp [h1, h2, h3]
  unfold allL allF
  rw [g, split_two he]
  simp only [List.flatMap_cons, List.flatMap_nil, List.append_nil]
  exact take_two _ _ 64
/-- the members so far, of the first k pieces -/
theorem mem_more {ps : List (List UInt8)} {k : Nat} (h : k < ps.length) : memL (ps.take (k + 1)) = memL (ps.take k) ++ (if trimL ps[k] = [] then [] else [trimL ps[k]]) := by
  rw [List.take_add_one, List.getElem?_eq_getElem h]
  simp only [Option.toList_some]
  rw [memL_append]
  congr 1
  split
  · rename_i e; unfold memL; simp [e]
  · rename_i e; exact memL_one e
theorem mem_full {ps : List (List UInt8)} {k : Nat} (h : (memL (ps.take k)).length = 64) : (memL ps).take 64 = memL (ps.take k) := by
  have e := List.take_append_drop k ps
  have : memL ps = memL (ps.take k) ++ memL (ps.drop k) := by rw [← memL_append, e]
  rw [this, List.take_append_of_le_length (by omega), List.take_of_length_le (by omega)]
theorem mem_end {ps : List (List UInt8)} {k : Nat} (h : ps.length ≤ k) (h2 : (memL (ps.take k)).length ≤ 64) : (memL ps).take 64 = memL (ps.take k) := by
  rw [List.take_of_length_le h] at h2 ⊢
  exact List.take_of_length_le h2
theorem allF_more {vs : List ByteArray} {k : Nat} (h : k < vs.length) : (allF (vs.take (k + 1))).take 64 = ((allF (vs.take k)).take 64 ++ splitL vs[k].data.toList).take 64 := by
  have e : vs.take (k + 1) = vs.take k ++ [vs[k]] := by rw [List.take_add_one, List.getElem?_eq_getElem h]; rfl
  rw [e]
  unfold allF
  rw [List.flatMap_append]
  simp only [List.flatMap_cons, List.flatMap_nil, List.append_nil]
  have hs : splitL vs[k].data.toList = (splitL vs[k].data.toList).take 64 := by
    rw [List.take_of_length_le]; unfold splitL; rw [List.length_take]; omega
  have t := take_two (vs.take k |>.flatMap fun v => splitL v.data.toList) (splitL vs[k].data.toList) 64
  rw [← hs] at t
  exact t.symm
theorem split_len (l : List UInt8) : (splitL l).length ≤ 64 := by unfold splitL; rw [List.length_take]; omega
/-- sizes: a piece is no longer than the list, nor is a member -/
theorem cut_small {sep : UInt8} : ∀ (f : Nat) (q : Bool) (l acc : List UInt8), ∀ p ∈ cutF sep f q l acc, p.length ≤ acc.length + l.length
  | f, q, [], acc, p, hp => by rw [cutF_nil, List.mem_singleton] at hp; subst hp; simp
  | 0, q, c :: r, acc, p, hp => by
    unfold cutF at hp
    rw [List.mem_singleton] at hp; subst hp; simp
  | f + 1, q, c :: r, acc, p, hp => by
    rw [cutF_cons] at hp
    simp only [List.length_cons]
    split at hp
    · match r, hp with
      | [], hp => simp only [List.mem_singleton] at hp; subst hp; simp
      | d :: r2, hp =>
        have := cut_small f q r2 _ p hp
        simp only [List.length_append, List.length_cons, List.length_nil] at this ⊢; omega
    · split at hp
      · have := cut_small f (!q) r _ p hp
        simp only [List.length_append, List.length_cons, List.length_nil] at this ⊢; omega
      · split at hp
        · rcases List.mem_cons.mp hp with e | hp
          · subst e; omega
          · have := cut_small f q r [] p hp
            simp only [List.length_nil] at this; omega
        · have := cut_small f q r _ p hp
          simp only [List.length_append, List.length_cons, List.length_nil] at this ⊢; omega
theorem cut_count {sep : UInt8} : ∀ (f : Nat) (q : Bool) (l acc : List UInt8), (cutF sep f q l acc).length ≤ l.length + 1
  | f, q, [], acc => by rw [cutF_nil]; simp
  | 0, q, c :: r, acc => by unfold cutF; simp
  | f + 1, q, c :: r, acc => by
    rw [cutF_cons]
    simp only [List.length_cons]
    split
    · match r with
      | [] => simp
      | d :: r2 =>
        have := cut_count (sep := sep) f q r2 (acc ++ [c, d])
        simp only [List.length_cons] at this ⊢; omega
    · split
      · have := cut_count (sep := sep) f (!q) r (acc ++ [c]); omega
      · split
        · have := cut_count (sep := sep) f q r []
          simp only [List.length_cons] at this ⊢; omega
        · have := cut_count (sep := sep) f q r (acc ++ [c]); omega
theorem split_small {l m : List UInt8} (h : m ∈ splitL l) : m.length ≤ l.length := by
  have h1 := List.mem_of_mem_take h
  unfold memL at h1
  obtain ⟨h2, _⟩ := List.mem_filter.mp h1
  obtain ⟨p, hp, rfl⟩ := List.mem_map.mp h2
  have := cut_small _ _ _ _ p hp
  have := trim_le p
  simp at *; omega
/-- joined, one after another -/
def joinP : List (List UInt8) → List UInt8 → List UInt8
  | [], acc => acc
  | m :: ms, acc => joinP ms (acc ++ [44, 32] ++ m)
theorem joinP_app : ∀ (ms : List (List UInt8)) (acc : List UInt8), joinP ms acc = acc ++ ms.flatMap (fun m => [44, 32] ++ m)
  | [], acc => by simp [joinP]
  | m :: ms, acc => by rw [joinP, joinP_app ms]; simp
theorem joinL_cons (m : List UInt8) : ∀ ms : List (List UInt8), joinC (m :: ms) = joinP ms m
  | [] => rfl
  | m2 :: ms => by
    rw [joinP_app]
    show m ++ [44, 32] ++ joinC (m2 :: ms) = _
    rw [joinL_cons m2 ms, joinP_app]; simp
theorem joinC_more {ms : List (List UInt8)} {k : Nat} (h : k < ms.length) : joinC (ms.take (k + 1)) = if k = 0 then ms[k] else joinC (ms.take k) ++ [44, 32] ++ ms[k] := by
  match ms, k, h with
  | m :: ms, 0, h => rfl
  | m :: ms, k + 1, h =>
    simp only [List.length_cons] at h
    have hk : k < ms.length := by omega
    rw [if_neg (by omega), List.take_succ_cons, List.take_succ_cons, joinL_cons, joinL_cons, joinP_app, joinP_app, List.take_add_one, List.getElem?_eq_getElem hk, List.flatMap_append]
    simp
end
section
/-- outside quoted strings (0), within one (1), behind a backslash within one (2) -/
def stepQ (s : Nat) (c : UInt8) : Nat := if s = 0 then (if c = 34 then 1 else 0) else if s = 1 then (if c = 34 then 0 else if c = 92 then 2 else 1) else 1
def pcF (sep : UInt8) : Nat → List UInt8 → List UInt8 → List UInt8 × List UInt8 × Bool
  | _, [], acc => (acc, [], false)
  | s, c :: r, acc => if s = 0 ∧ c = sep then (acc, r, true) else pcF sep (stepQ s c) r (acc ++ [c])
def pcL (sep : UInt8) (l : List UInt8) : List UInt8 × List UInt8 × Bool := pcF sep 0 l []
def moreL (sep : UInt8) (m : Bool) (l : List UInt8) : List (List UInt8) := if m then cutL sep l else []
theorem pcF_cons (sep : UInt8) (s : Nat) (c : UInt8) (r acc : List UInt8) : pcF sep s (c :: r) acc = if s = 0 ∧ c = sep then (acc, r, true) else pcF sep (stepQ s c) r (acc ++ [c]) := rfl
def qS (q : Bool) : Nat := if q = true then 1 else 0
theorem cut_pc {sep : UInt8} (hs : sep ≠ 34) : ∀ (f : Nat) (q : Bool) (l acc : List UInt8), l.length ≤ f → cutF sep f q l acc = (pcF sep (qS q) l acc).1 :: moreL sep (pcF sep (qS q) l acc).2.2 (pcF sep (qS q) l acc).2.1
  | f, q, [], acc, _ => by rw [cutF_nil]; rfl
  | 0, q, c :: r, acc, h => by simp at h
  | f + 1, q, c :: r, acc, h => by
    simp only [List.length_cons] at h
    rw [cutF_cons, pcF_cons]
    by_cases h1 : q = true ∧ c = 92
    · obtain ⟨rfl, rfl⟩ := h1
      rw [if_pos ⟨rfl, rfl⟩, if_neg (fun h => absurd h.1 (by decide))]
      match r, h with
      | [], h => rfl
      | d :: r2, h =>
        simp only [List.length_cons] at h
        simp only
        rw [cut_pc hs f true r2 _ (by omega), pcF_cons, if_neg (fun h => absurd h.1 (by decide)), List.append_assoc]
        rfl
    · rw [if_neg h1]
      by_cases h2 : c = 34
      · subst h2
        rw [if_pos rfl, if_neg (fun h => hs h.2.symm), cut_pc hs f (!q) r _ (by omega)]
        cases q <;> rfl
      · rw [if_neg h2]
        by_cases h3 : c = sep ∧ q = false
        · obtain ⟨rfl, rfl⟩ := h3
          rw [if_pos ⟨rfl, rfl⟩, if_pos ⟨rfl, rfl⟩]
          show acc :: cutF c f false r [] = acc :: cutF c r.length false r []
          rw [cutF_fuel f r.length false r [] (by omega) (Nat.le_refl _)]
        · rw [if_neg h3]
          have e : stepQ (qS q) c = qS q := by
            unfold stepQ
            cases q
            · show (if (0 : Nat) = 0 then _ else _) = _
              rw [if_pos rfl, if_neg h2]; rfl
            · show (if (1 : Nat) = 0 then _ else if (1 : Nat) = 1 then _ else _) = _
              rw [if_neg (by decide), if_pos rfl, if_neg h2, if_neg (fun h => h1 ⟨rfl, h⟩)]; rfl
          have n : ¬ (qS q = 0 ∧ c = sep) := by
            rintro ⟨h5, h6⟩
            cases q
            · exact h3 ⟨h6, rfl⟩
            · exact absurd h5 (by decide)
          rw [if_neg n, e, cut_pc hs f q r _ (by omega)]
theorem cutL_pc {sep : UInt8} (hs : sep ≠ 34) (l : List UInt8) : cutL sep l = (pcL sep l).1 :: moreL sep (pcL sep l).2.2 (pcL sep l).2.1 := cut_pc hs l.length false l [] (Nat.le_refl _)
/-- the steps, by places -/
def pcAt (sep : UInt8) (s : Nat) (l : List UInt8) (k : Nat) : List UInt8 × List UInt8 × Bool := pcF sep s (l.drop k) (l.take k)
theorem pc_start (sep : UInt8) (l : List UInt8) : pcL sep l = pcAt sep 0 l 0 := by unfold pcL pcAt; simp
theorem pc_end {sep : UInt8} {s : Nat} {l : List UInt8} {k : Nat} (h : l.length ≤ k) : pcAt sep s l k = (l, [], false) := by
  unfold pcAt; rw [List.drop_of_length_le h, List.take_of_length_le h]; rfl
theorem pc_sep {sep : UInt8} {l : List UInt8} {k : Nat} (hk : k < l.length) (h : l[k] = sep) : pcAt sep 0 l k = (l.take k, l.drop (k + 1), true) := by
  unfold pcAt; rw [List.drop_eq_getElem_cons hk, pcF_cons, if_pos ⟨rfl, h⟩]
theorem pc_step {sep : UInt8} {s : Nat} {l : List UInt8} {k : Nat} (hk : k < l.length) (h : ¬ (s = 0 ∧ l[k] = sep)) : pcAt sep s l k = pcAt sep (stepQ s l[k]) l (k + 1) := by
  unfold pcAt
  rw [List.drop_eq_getElem_cons hk, pcF_cons, if_neg h, List.take_add_one, List.getElem?_eq_getElem hk]; rfl
theorem stepQ_le (s : Nat) (c : UInt8) : stepQ s c ≤ 2 := by unfold stepQ; repeat' split <;> try omega
/-- sizes -/
theorem pcF_size (sep : UInt8) : ∀ (l : List UInt8) (s : Nat) (acc : List UInt8), (pcF sep s l acc).1.length + (pcF sep s l acc).2.1.length ≤ acc.length + l.length ∧ ((pcF sep s l acc).2.2 = true → (pcF sep s l acc).2.1.length < l.length)
  | [], s, acc => ⟨by simp [pcF], fun h => by simp [pcF] at h⟩
  | c :: r, s, acc => by
    rw [pcF_cons]
    split
    · refine ⟨by simp only [List.length_cons]; omega, fun _ => by simp⟩
    · obtain ⟨h1, h2⟩ := pcF_size sep r (stepQ s c) (acc ++ [c])
      simp only [List.length_append, List.length_cons, List.length_nil] at h1 ⊢
      exact ⟨by omega, fun h => by have := h2 h; omega⟩
/-- the members of a value behind others, as long as there is room -/
def addL (A : List (List UInt8)) (ps : List (List UInt8)) : List (List UInt8) := (A ++ memL ps).take 64
theorem addL_nil {A : List (List UInt8)} (h : A.length ≤ 64) : addL A [] = A := by unfold addL memL; simp [List.take_of_length_le h]
theorem addL_full {A ps : List (List UInt8)} (h : A.length = 64) : addL A ps = A := by
  unfold addL; rw [List.take_append_of_le_length (by omega), List.take_of_length_le (by omega)]
theorem memL_cons (p : List UInt8) (ps : List (List UInt8)) : memL (p :: ps) = (if trimL p = [] then [] else [trimL p]) ++ memL ps := by
  rw [show p :: ps = [p] ++ ps from rfl, memL_append]
  congr 1
  split
  · rename_i e; unfold memL; simp [e]
  · rename_i e; exact memL_one e
theorem addL_blank {A ps : List (List UInt8)} {p : List UInt8} (h : trimL p = []) : addL A (p :: ps) = addL A ps := by unfold addL; rw [memL_cons, if_pos h, List.nil_append]
theorem addL_more {A ps : List (List UInt8)} {p : List UInt8} (h : trimL p ≠ []) : addL A (p :: ps) = addL (A ++ [trimL p]) ps := by unfold addL; rw [memL_cons, if_neg h, List.append_assoc]
theorem addL_all {vs : List ByteArray} {k : Nat} (h : k < vs.length) : (allF (vs.take (k + 1))).take 64 = addL ((allF (vs.take k)).take 64) (cutL 44 vs[k].data.toList) := by
  rw [allF_more h]
  unfold addL splitL
  generalize (allF (vs.take k)).take 64 = X
  rw [List.take_append, List.take_append, List.take_take]
  congr 2
  omega
end
section
/-- where a cut stands: at place k, the piece begun at place n -/
def cutAt (sep : UInt8) (l : List UInt8) (q : Bool) (k n : Nat) : List (List UInt8) := cutF sep (l.length - k) q (l.drop k) ((l.take k).drop n)
theorem cut_start (sep : UInt8) (l : List UInt8) : cutL sep l = cutAt sep l false 0 0 := by unfold cutL cutAt; simp
theorem acc_next {l : List UInt8} {k n : Nat} (hk : k < l.length) (hn : n ≤ k) : (l.take k).drop n ++ [l[k]] = (l.take (k + 1)).drop n := by
  rw [List.take_add_one, List.getElem?_eq_getElem hk, List.drop_append_of_le_length (by rw [List.length_take]; omega)]; rfl
theorem cut_fuel1 {l : List UInt8} {k : Nat} (hk : k < l.length) : l.length - k = (l.length - (k + 1)) + 1 := by omega
theorem cut_drop {l : List UInt8} {k : Nat} (hk : k < l.length) : l.drop k = l[k] :: l.drop (k + 1) := List.drop_eq_getElem_cons hk
theorem cut_out {sep : UInt8} {l : List UInt8} {q : Bool} {k n : Nat} (hk : l.length ≤ k) : cutAt sep l q k n = [l.drop n] := by
  unfold cutAt; rw [List.drop_of_length_le hk, cutF_nil, List.take_of_length_le hk]
theorem cut_esc {sep : UInt8} {l : List UInt8} {k n : Nat} (hk : k < l.length) (hn : n ≤ k) (h : l[k] = 92) : cutAt sep l true k n = cutAt sep l true (k + 2) n := by
  unfold cutAt
  rw [cut_fuel1 hk, cut_drop hk, cutF_cons, if_pos ⟨rfl, h⟩]
  by_cases h2 : k + 1 < l.length
  · rw [cut_drop h2]
    simp only
    have e : (l.take k).drop n ++ [l[k], l[k + 1]] = (l.take (k + 2)).drop n := by
      rw [← acc_next h2 (by omega), ← acc_next hk hn, List.append_assoc]; rfl
    rw [e]
    exact cutF_fuel _ _ _ _ _ (by rw [List.length_drop]; omega) (by rw [List.length_drop]; omega)
  · have e1 : l.drop (k + 1) = [] := List.drop_of_length_le (by omega)
    have e2 : l.drop (k + 2) = [] := List.drop_of_length_le (by omega)
    have e3 : l.take (k + 2) = l.take (k + 1) := by rw [List.take_of_length_le (by omega), List.take_of_length_le (by omega)]
    rw [e1, e2, cutF_nil, e3, ← acc_next hk hn]
theorem cut_quo {sep : UInt8} {l : List UInt8} {q : Bool} {k n : Nat} (hk : k < l.length) (hn : n ≤ k) (h1 : ¬ (q = true ∧ l[k] = 92)) (h : l[k] = 34) : cutAt sep l q k n = cutAt sep l (!q) (k + 1) n := by
  unfold cutAt
  rw [cut_fuel1 hk, cut_drop hk, cutF_cons, if_neg h1, if_pos h, acc_next hk hn]
theorem cut_sep {sep : UInt8} {l : List UInt8} {k n : Nat} (hk : k < l.length) (h2 : l[k] ≠ 34) (h : l[k] = sep) : cutAt sep l false k n = (l.take k).drop n :: cutAt sep l false (k + 1) (k + 1) := by
  unfold cutAt
  rw [cut_fuel1 hk, cut_drop hk, cutF_cons, if_neg (by simp), if_neg h2, if_pos ⟨h, rfl⟩, List.drop_of_length_le (l := l.take (k + 1)) (by rw [List.length_take]; omega)]
theorem cut_any {sep : UInt8} {l : List UInt8} {q : Bool} {k n : Nat} (hk : k < l.length) (hn : n ≤ k) (h1 : ¬ (q = true ∧ l[k] = 92)) (h2 : l[k] ≠ 34) (h : ¬ (l[k] = sep ∧ q = false)) : cutAt sep l q k n = cutAt sep l q (k + 1) n := by
  unfold cutAt
  rw [cut_fuel1 hk, cut_drop hk, cutF_cons, if_neg h1, if_neg h2, if_neg h, acc_next hk hn]
end
section
open Go.RowKit
theorem ret_bool {a b : Bool} (h : a = b) : Ending.returned (.bool a) = .returned (.bool b) := by rw [h]
theorem ret_int {k : IntKind} {a b : Int} (h : a = b) : Ending.returned (.int k a) = .returned (.int k b) := by rw [h]
theorem eqb_t {a b : Int} (h : (a == b) = true) : a = b := by simpa using h
theorem isBlank_any (b : Int) (w : World) :
    Calls Try.prog 57 #[.int .u8 b] w fun e w' => e = .returned (.bool (blankI b)) ∧ w = w' := by
  go_enter Try.func57, Try.ntmps57
  go_wp2
  all_goals (go_ret; exact ⟨ret_bool (by simp [blankI, *]), rfl⟩)
theorem rblank_any (b : Int) (w : World) :
    Calls Try.prog 52 #[.int .u8 b] w fun e w' => e = .returned (.bool (blankI b)) ∧ w = w' := by
  go_enter Try.func52, Try.ntmps52
  go_wp2
  all_goals (go_ret; exact ⟨ret_bool (by simp [blankI, *]), rfl⟩)
theorem isTextByte_any (b : Int) (w : World) (h0 : 0 ≤ b) (h1 : b ≤ 255) :
    Calls Try.prog 82 #[.int .u8 b] w fun e w' => e = .returned (.bool (textI b)) ∧ w = w' := by
  go_enter Try.func82, Try.ntmps82
  go_wp2
  all_goals (go_ret; exact ⟨ret_bool (by rw [Bool.eq_iff_iff]; simp [textI, *] <;> omega), rfl⟩)
theorem textByte_any (b : Int) (w : World) (h0 : 0 ≤ b) (h1 : b ≤ 255) :
    Calls Try.prog 51 #[.int .u8 b] w fun e w' => e = .returned (.bool (textI b)) ∧ w = w' := by
  go_enter Try.func51, Try.ntmps51
  go_wp2
  all_goals (go_ret; exact ⟨ret_bool (by rw [Bool.eq_iff_iff]; simp [textI, *] <;> omega), rfl⟩)
theorem lowerByte_any (b : Int) (w : World) (h0 : 0 ≤ b) (h1 : b ≤ 255) :
    Calls Try.prog 70 #[.int .u8 b] w fun e w' => e = .returned (.int .u8 (lowI b)) ∧ w = w' := by
  go_enter Try.func70, Try.ntmps70
  go_wp2
  all_goals (go_ret; exact ⟨ret_int (by unfold lowI; split <;> omega), rfl⟩)
theorem isTokenByte_any (b : Int) (w : World) (h0 : 0 ≤ b) (h1 : b ≤ 255) :
    Calls Try.prog 69 #[.int .u8 b] w fun e w' => e = .returned (.bool (tokI b)) ∧ w = w' := by
  go_enter Try.func69, Try.ntmps69
  go_wp2
  all_goals (go_ret; exact ⟨ret_bool (by first | (simp [tokI, signI, *]; done) | (rw [Bool.eq_iff_iff]; simp [tokI, signI, letterI, digitI, *] <;> omega)), rfl⟩)
theorem rTokenByte_any (b : Int) (w : World) (h0 : 0 ≤ b) (h1 : b ≤ 255) :
    Calls Try.prog 50 #[.int .u8 b] w fun e w' => e = .returned (.bool (tokI b)) ∧ w = w' := by
  go_enter Try.func50, Try.ntmps50
  go_wp2
  all_goals try (go_ret; exact ⟨ret_bool (by rw [Bool.eq_iff_iff]; simp [tokI, letterI, digitI] <;> omega), rfl⟩)
  all_goals
    go_loop [3] (fun i => ∃ k : Nat, k ≤ 15 ∧ i = .int .i64 k ∧ ∀ j < k, signL.getD j 0 ≠ b) (fun i => 15 - (intOf i).toNat)
    case atStart => exact ⟨0, by omega, rfl, by omega⟩
    case round =>
      obtain ⟨k, hk, rfl, hno⟩ := hrel
      by_cases hlt : k < 15
      · go_wp2
        · go_ret
          exact ⟨ret_bool (sign_yes hlt ‹_›).symm, rfl⟩
        · go_round
          case rel => exact ⟨k + 1, by omega, by go_num, sign_more hno hlt ‹_›⟩
          case measure => simp [intOf]; omega
      · go_wp2
        go_ret
        exact ⟨ret_bool (sign_no hno (by omega) (by simp [letterI, digitI] <;> omega)).symm, rfl⟩
end
section
open Go.RowKit
theorem byte_bd (s : ByteArray) (k : Nat) (h : k < s.size) : (0 : Int) ≤ (s[k].toNat : Int) ∧ (s[k].toNat : Int) ≤ 255 := by
  have := s[k].toNat_lt; omega
theorem tokL_not {s : ByteArray} {k : Nat} (hk : k < s.size) (hp : tokI (s[k].toNat) = false) : tokL s.data.toList = false := by
  simp [tokL, all_not hk hp]
theorem textL_not {s : ByteArray} {k : Nat} (hk : k < s.size) (hp : textI (s[k].toNat) = false) : textL s.data.toList = false := all_not hk hp
theorem textL_end {s : ByteArray} {k : Nat} (h : allI textI (s.data.toList.take k) = true) (hk : s.size ≤ k) : textL s.data.toList = true := all_end h hk
theorem tokL_end {s : ByteArray} {k : Nat} (h : allI tokI (s.data.toList.take k) = true) (hk : s.size ≤ k) : tokL s.data.toList = !s.toList.isEmpty := by
  rw [ByteArray.toList_eq]; simp [tokL, all_end h hk]
theorem Token_any (s : ByteArray) (w : World) (hs : s.size ≤ maxLen) :
    Calls Try.prog 60 #[.string s] w fun e w' => e = .returned (.bool (tokL s.data.toList)) ∧ w = w' := by
  unfold maxLen at hs
  go_enter Try.func60, Try.ntmps60
  go_wp2
  go_loop [6] (fun i => ∃ k : Nat, k ≤ s.size ∧ i = .int .i64 k ∧ allI tokI (s.data.toList.take k) = true) (fun i => s.size - (intOf i).toNat)
  case atStart => exact ⟨0, Nat.zero_le _, rfl, rfl⟩
  case round =>
    obtain ⟨k, hk, rfl, hall⟩ := hrel
    by_cases hlt : k < s.size
    · have hb := byte_bd s k hlt
      rcases hp : tokI (s[k].toNat) with _ | _
      · go_wp2_with (go_at_call 69; refine (isTokenByte_any _ _ hb.1 hb.2).mono ?_; rintro e w' ⟨rfl, rfl⟩)
        go_ret
        exact ⟨ret_bool (tokL_not hlt hp).symm, rfl⟩
      · go_wp2_with (go_at_call 69; refine (isTokenByte_any _ _ hb.1 hb.2).mono ?_; rintro e w' ⟨rfl, rfl⟩)
        go_round
        case rel => exact ⟨k + 1, by omega, by go_num, all_more hall hlt hp⟩
        case measure => simp [intOf]; omega
    · go_wp2
      go_ret
      exact ⟨ret_bool (tokL_end hall (by omega)).symm, rfl⟩
theorem rToken_any (s : ByteArray) (w : World) (hs : s.size ≤ maxLen) :
    Calls Try.prog 32 #[.string s] w fun e w' => e = .returned (.bool (tokL s.data.toList)) ∧ w = w' := by
  unfold maxLen at hs
  go_enter Try.func32, Try.ntmps32
  go_wp2
  go_loop [3] (fun i => ∃ k : Nat, k ≤ s.size ∧ i = .int .i64 k ∧ allI tokI (s.data.toList.take k) = true) (fun i => s.size - (intOf i).toNat)
  case atStart => exact ⟨0, Nat.zero_le _, rfl, rfl⟩
  case round =>
    obtain ⟨k, hk, rfl, hall⟩ := hrel
    by_cases hlt : k < s.size
    · have hb := byte_bd s k hlt
      rcases hp : tokI (s[k].toNat) with _ | _
      · go_wp2_with (go_at_call 50; refine (rTokenByte_any _ _ hb.1 hb.2).mono ?_; rintro e w' ⟨rfl, rfl⟩)
        go_ret
        exact ⟨ret_bool (tokL_not hlt hp).symm, rfl⟩
      · go_wp2_with (go_at_call 50; refine (rTokenByte_any _ _ hb.1 hb.2).mono ?_; rintro e w' ⟨rfl, rfl⟩)
        go_round
        case rel => exact ⟨k + 1, by omega, by go_num, all_more hall hlt hp⟩
        case measure => simp [intOf]; omega
    · go_wp2
      go_ret
      exact ⟨ret_bool (tokL_end hall (by omega)).symm, rfl⟩
theorem Text_any (s : ByteArray) (w : World) (hs : s.size ≤ maxLen) :
    Calls Try.prog 74 #[.string s] w fun e w' => e = .returned (.bool (textL s.data.toList)) ∧ w = w' := by
  unfold maxLen at hs
  go_enter Try.func74, Try.ntmps74
  go_wp2
  go_loop [6] (fun i => ∃ k : Nat, k ≤ s.size ∧ i = .int .i64 k ∧ allI textI (s.data.toList.take k) = true) (fun i => s.size - (intOf i).toNat)
  case atStart => exact ⟨0, Nat.zero_le _, rfl, rfl⟩
  case round =>
    obtain ⟨k, hk, rfl, hall⟩ := hrel
    by_cases hlt : k < s.size
    · have hb := byte_bd s k hlt
      rcases hp : textI (s[k].toNat) with _ | _
      · go_wp2_with (go_at_call 82; refine (isTextByte_any _ _ hb.1 hb.2).mono ?_; rintro e w' ⟨rfl, rfl⟩)
        go_ret
        exact ⟨ret_bool (textL_not hlt hp).symm, rfl⟩
      · go_wp2_with (go_at_call 82; refine (isTextByte_any _ _ hb.1 hb.2).mono ?_; rintro e w' ⟨rfl, rfl⟩)
        go_round
        case rel => exact ⟨k + 1, by omega, by go_num, all_more hall hlt hp⟩
        case measure => simp [intOf]; omega
    · go_wp2
      go_ret
      exact ⟨ret_bool (textL_end hall (by omega)).symm, rfl⟩
theorem rText_any (s : ByteArray) (w : World) (hs : s.size ≤ maxLen) :
    Calls Try.prog 33 #[.string s] w fun e w' => e = .returned (.bool (textL s.data.toList)) ∧ w = w' := by
  unfold maxLen at hs
  go_enter Try.func33, Try.ntmps33
  go_wp2
  go_loop [3] (fun i => ∃ k : Nat, k ≤ s.size ∧ i = .int .i64 k ∧ allI textI (s.data.toList.take k) = true) (fun i => s.size - (intOf i).toNat)
  case atStart => exact ⟨0, Nat.zero_le _, rfl, rfl⟩
  case round =>
    obtain ⟨k, hk, rfl, hall⟩ := hrel
    by_cases hlt : k < s.size
    · have hb := byte_bd s k hlt
      rcases hp : textI (s[k].toNat) with _ | _
      · go_wp2_with (go_at_call 51; refine (textByte_any _ _ hb.1 hb.2).mono ?_; rintro e w' ⟨rfl, rfl⟩)
        go_ret
        exact ⟨ret_bool (textL_not hlt hp).symm, rfl⟩
      · go_wp2_with (go_at_call 51; refine (textByte_any _ _ hb.1 hb.2).mono ?_; rintro e w' ⟨rfl, rfl⟩)
        go_round
        case rel => exact ⟨k + 1, by omega, by go_num, all_more hall hlt hp⟩
        case measure => simp [intOf]; omega
    · go_wp2
      go_ret
      exact ⟨ret_bool (textL_end hall (by omega)).symm, rfl⟩
end
section
open Go.RowKit
/-- a fact that no assumption opens: a walk's search unfolds 'Hid', and runs into a size of a slice -/
def Box (p : Prop) : Prop := True → p
theorem box {p : Prop} (h : p) : Box p := fun _ => h
theorem Box.out {p : Prop} (h : Box p) : p := h trivial
theorem IndexByte_any (s : ByteArray) (c : Int) (w : World) :
    Calls Try.prog 78 #[.string s, .int .u8 c] w fun e w' => e = .returned (.int .i64 (Lib.indexByte s.data.toList c.toNat.toUInt8)) ∧ w = w' := by
  go_enter Try.func78, Try.ntmps78
  go_wp2
  rw [run_callFunc_extern Try.func83 (by kernel_rfl) (by kernel_rfl) (by kernel_rfl) (e := Extern.BytealgIndexByte.indexByte) (by kernel_rfl), Lib.run_indexByteString]
  simp only [Result.andThen]
  rw [Oper.upon_value]
  go_wp2
  go_ret
  exact ⟨rfl, rfl⟩
theorem Index1_any (s : ByteArray) (c : UInt8) (w : World) :
    Calls Try.prog 73 #[.string s, .string ⟨#[c]⟩] w fun e w' => e = .returned (.int .i64 (Lib.indexByte s.data.toList c)) ∧ w = w' := by
  go_enter Try.func73, Try.ntmps73
  go_wp2_with (go_at_call 78; refine (IndexByte_any _ _ _).mono ?_; rintro e w' ⟨rfl, rfl⟩)
  · have h : ([c] == s.toList) = true := by assumption
    go_ret
    refine ⟨ret_int ?_, rfl⟩
    have e : s.data.toList = [c] := by rw [← toList_data]; exact (beq_iff_eq.1 h).symm
    rw [e]
    simp [Lib.indexByte]
  · go_ret
    exact ⟨rfl, rfl⟩
theorem below_drewN (w : World) (n : Nat) : Below w.heap.size w (w.drewN n) := ⟨rfl, rfl, rfl, Nat.le_refl _, fun _ _ => rfl⟩
def cutV (c : UInt8) (l : List UInt8) : Value := .tuple #[.string (bs (cut1 c l)), .string (bs (cut2 c l)), .bool (cutB c l)]
theorem sCut_any (s : ByteArray) (c : UInt8) (w : World) (hs : s.size ≤ maxLen) :
    Calls Try.prog 67 #[.string s, .string ⟨#[c]⟩] w fun e w' => e = .returned (cutV c s.data.toList) ∧ Below w.heap.size w w' := by
  unfold maxLen at hs
  have hz : s.data.toList.length = s.size := by simp
  have hge := Lib.indexByte_ge s.data.toList c
  by_cases h : Lib.indexByte s.data.toList c = -1
  · have H := Lib.hid (cut_no h)
    have H2 := Lib.hid h
    clear h hge hz
    go_enter Try.func67, Try.ntmps67
    go_wp2_with fail
    refine (Index1_any _ _ _).mono ?_; rintro e w1 ⟨rfl, rfl⟩; rw [H2.out]
    go_wp2
    go_ret3
    exact ⟨by unfold cutV; rw [H.out.1, H.out.2.1, H.out.2.2]; rfl, Below.refl _ _⟩
  · obtain ⟨k, hk⟩ : ∃ k : Nat, Lib.indexByte s.data.toList c = k := ⟨(Lib.indexByte s.data.toList c).toNat, by omega⟩
    have H := Lib.hid (cut_at hk)
    have H2 := Lib.hid hk
    have hlt : k < s.size := by have := H.out.1; omega
    clear h hge hz hk
    go_enter Try.func67, Try.ntmps67
    go_wp2_with fail
    refine (Index1_any _ _ _).mono ?_; rintro e w1 ⟨rfl, rfl⟩; rw [H2.out]
    go_wp2
    go_quiet (fail)
    go_wp2
    go_ret3
    refine ⟨?_, below_drewN _ _⟩
    unfold cutV
    rw [H.out.2.1, H.out.2.2.1, H.out.2.2.2]
    show Ending.returned (.tuple #[.string (s.extract 0 k), .string (s.extract (k + 1) s.size), .bool true]) = _
    rw [ext_bs, ext_bs, List.drop_zero, List.take_of_length_le (i := s.size) (by simp)]
theorem Cut_any (s : ByteArray) (c : UInt8) (w : World) (hs : s.size ≤ maxLen) :
    Calls Try.prog 58 #[.string s, .string ⟨#[c]⟩] w fun e w' => e = .returned (cutV c s.data.toList) ∧ Below w.heap.size w w' := by
  have HS := Lib.hid hs
  clear hs
  go_enter Try.func58, Try.ntmps58
  go_wp2_with fail
  refine (sCut_any _ _ _ HS.out).mono ?_; rintro e w1 ⟨rfl, hb⟩; unfold cutV
  go_wp2
  go_ret3
  exact ⟨rfl, hb⟩
theorem rIndex_any (s : ByteArray) (c : Int) (d : UInt8) (f : Nat) (w : World) (hs : s.size ≤ maxLen) (hf : f ≤ s.size) (hc : c = (d.toNat : Int)) :
    Calls Try.prog 45 #[.string s, .int .u8 c, .int .i64 f] w fun e w' => e = .returned (.int .i64 (idxF s.data.toList d f)) ∧ w = w' := by
  unfold maxLen at hs
  have HC := Lib.hid hc
  clear hc
  go_enter Try.func45, Try.ntmps45
  go_wp2
  go_loop [7] (fun i => ∃ k : Nat, k ≤ s.size ∧ i = .int .i64 k ∧ idxF s.data.toList d f = idxF s.data.toList d k) (fun i => s.size - (intOf i).toNat)
  case atStart => exact ⟨f, hf, rfl, rfl⟩
  case round =>
    obtain ⟨k, hk, rfl, hrest⟩ := hrel
    have HR := Lib.hid hrest
    clear hrest
    by_cases hlt : k < s.size
    · rcases hp : ((s[k].toNat : Int) == c) with _ | _
      · have hne : s.data.toList[k]'(by simpa using hlt) ≠ d := by
          intro e
          have : s[k] = d := e
          rw [this, HC.out] at hp; simp at hp
        have HM := Lib.hid (idxF_miss (by simpa using hlt) hne)
        clear hne
        go_wp2
        go_round
        case rel => exact ⟨k + 1, by omega, by go_num, by rw [HR.out, HM.out]⟩
        case measure => simp [intOf]; omega
      · have heq : s.data.toList[k]'(by simpa using hlt) = d := by
          have h1 := eqb_t hp
          rw [HC.out] at h1
          have h2 : s[k].toNat = d.toNat := by omega
          exact UInt8.toNat_inj.mp h2
        have HM := Lib.hid (idxF_hit (by simpa using hlt) heq)
        clear heq
        go_wp2
        go_ret
        exact ⟨ret_int (by rw [HR.out, HM.out]), rfl⟩
    · go_wp2
      go_ret
      exact ⟨ret_int (by rw [HR.out, idxF_end (by simp; omega)]), rfl⟩
end
end Go.Proofs.Ytfpeaakdjihajaa.Asc
