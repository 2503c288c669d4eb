/- Plain facts: the members of all fields with a name; what the reference's loops keep. No program is named here. -/
import Derived.Test.YtlcojfkkeommoaaLisSpec2
import Derived.Test.YtlcojfkkeommoaaLstSpec
set_option linter.unusedVariables false
set_option linter.unusedSimpArgs false
set_option maxRecDepth 100000
namespace Go.Proofs.Ytlcojfkkeommoaa.Asc

def allF (vs : List ByteArray) : List (List UInt8) := vs.flatMap fun v => splitL v.data.toList
def allL (nm : ByteArray) (L : List F) : List (List UInt8) := (allF (getL nm L)).take 64
theorem take_two {α : Type} (A B : List α) (n : Nat) : (A.take n ++ B.take n).take n = (A ++ B).take n := by
  rw [List.take_append, List.take_append, List.take_take, Nat.min_self, List.length_take]
  by_cases h : A.length ≤ n
  · rw [Nat.min_eq_right h, List.take_take, Nat.min_eq_left (by omega)]
  · have e1 : n - min n A.length = 0 := by omega
    have e2 : n - A.length = 0 := by omega
    rw [e1, e2]; simp
/-- for ListLines -/
theorem all_lines {nm o : ByteArray} {a b : ByteArray} (he : endF a.data.toList.length false a.data.toList = false) (hn : foldL nm.data.toList o.data.toList = false) :
    allL nm [(nm, a), (o, b), (⟨(lowL nm.data.toList).toArray⟩, b)] = splitL (a.data.toList ++ 44 :: b.data.toList) := by
  have g : getL nm [(nm, a), (o, b), (⟨(lowL nm.data.toList).toArray⟩, b)] = [a, b] := by
    have h1 : nmd nm (nm, a) = true := fold_refl _
    have h2 : nmd nm (o, b) = false := by show foldL o.data.toList nm.data.toList = false; rw [fold_symm]; exact hn
    have h3 : nmd nm ((⟨(lowL nm.data.toList).toArray⟩ : ByteArray), b) = true := by
      show foldL (lowL nm.data.toList) nm.data.toList = true
      rw [fold_symm]; exact fold_low _
    unfold getL
    simp [h1, h2, h3]
  unfold allL allF
  rw [g, split_two he]
  simp only [List.flatMap_cons, List.flatMap_nil, List.append_nil]
  exact take_two _ _ 64
/-- the members so far, of the first k pieces -/
theorem mem_more {ps : List (List UInt8)} {k : Nat} (h : k < ps.length) : memL (ps.take (k + 1)) = memL (ps.take k) ++ (if trimL ps[k] = [] then [] else [trimL ps[k]]) := by
  rw [List.take_add_one, List.getElem?_eq_getElem h]
  simp only [Option.toList_some]
  rw [memL_append]
  congr 1
  split
  · rename_i e; unfold memL; simp [e]
  · rename_i e; exact memL_one e
theorem mem_full {ps : List (List UInt8)} {k : Nat} (h : (memL (ps.take k)).length = 64) : (memL ps).take 64 = memL (ps.take k) := by
  have e := List.take_append_drop k ps
  have : memL ps = memL (ps.take k) ++ memL (ps.drop k) := by rw [← memL_append, e]
  rw [this, List.take_append_of_le_length (by omega), List.take_of_length_le (by omega)]
theorem mem_end {ps : List (List UInt8)} {k : Nat} (h : ps.length ≤ k) (h2 : (memL (ps.take k)).length ≤ 64) : (memL ps).take 64 = memL (ps.take k) := by
  rw [List.take_of_length_le h] at h2 ⊢
  exact List.take_of_length_le h2
theorem allF_more {vs : List ByteArray} {k : Nat} (h : k < vs.length) : (allF (vs.take (k + 1))).take 64 = ((allF (vs.take k)).take 64 ++ splitL vs[k].data.toList).take 64 := by
  have e : vs.take (k + 1) = vs.take k ++ [vs[k]] := by rw [List.take_add_one, List.getElem?_eq_getElem h]; rfl
  rw [e]
  unfold allF
  rw [List.flatMap_append]
  simp only [List.flatMap_cons, List.flatMap_nil, List.append_nil]
  have hs : splitL vs[k].data.toList = (splitL vs[k].data.toList).take 64 := by
    rw [List.take_of_length_le]; unfold splitL; rw [List.length_take]; omega
  have t := take_two (vs.take k |>.flatMap fun v => splitL v.data.toList) (splitL vs[k].data.toList) 64
  rw [← hs] at t
  exact t.symm
theorem split_len (l : List UInt8) : (splitL l).length ≤ 64 := by unfold splitL; rw [List.length_take]; omega
/-- sizes: a piece is no longer than the list, nor is a member -/
theorem cut_small {sep : UInt8} : ∀ (f : Nat) (q : Bool) (l acc : List UInt8), ∀ p ∈ cutF sep f q l acc, p.length ≤ acc.length + l.length
  | f, q, [], acc, p, hp => by rw [cutF_nil, List.mem_singleton] at hp; subst hp; simp
  | 0, q, c :: r, acc, p, hp => by
    unfold cutF at hp
    rw [List.mem_singleton] at hp; subst hp; simp
  | f + 1, q, c :: r, acc, p, hp => by
    rw [cutF_cons] at hp
    simp only [List.length_cons]
    split at hp
    · match r, hp with
      | [], hp => simp only [List.mem_singleton] at hp; subst hp; simp
      | d :: r2, hp =>
        have := cut_small f q r2 _ p hp
        simp only [List.length_append, List.length_cons, List.length_nil] at this ⊢; omega
    · split at hp
      · have := cut_small f (!q) r _ p hp
        simp only [List.length_append, List.length_cons, List.length_nil] at this ⊢; omega
      · split at hp
        · rcases List.mem_cons.mp hp with e | hp
          · subst e; omega
          · have := cut_small f q r [] p hp
            simp only [List.length_nil] at this; omega
        · have := cut_small f q r _ p hp
          simp only [List.length_append, List.length_cons, List.length_nil] at this ⊢; omega
theorem cut_count {sep : UInt8} : ∀ (f : Nat) (q : Bool) (l acc : List UInt8), (cutF sep f q l acc).length ≤ l.length + 1
  | f, q, [], acc => by rw [cutF_nil]; simp
  | 0, q, c :: r, acc => by unfold cutF; simp
  | f + 1, q, c :: r, acc => by
    rw [cutF_cons]
    simp only [List.length_cons]
    split
    · match r with
      | [] => simp
      | d :: r2 =>
        have := cut_count (sep := sep) f q r2 (acc ++ [c, d])
        simp only [List.length_cons] at this ⊢; omega
    · split
      · have := cut_count (sep := sep) f (!q) r (acc ++ [c]); omega
      · split
        · have := cut_count (sep := sep) f q r []
          simp only [List.length_cons] at this ⊢; omega
        · have := cut_count (sep := sep) f q r (acc ++ [c]); omega
theorem split_small {l m : List UInt8} (h : m ∈ splitL l) : m.length ≤ l.length := by
  have h1 := List.mem_of_mem_take h
  unfold memL at h1
  obtain ⟨h2, _⟩ := List.mem_filter.mp h1
  obtain ⟨p, hp, rfl⟩ := List.mem_map.mp h2
  have := cut_small _ _ _ _ p hp
  have := trim_le p
  simp at *; omega
/-- joined, one after another -/
def joinP : List (List UInt8) → List UInt8 → List UInt8
  | [], acc => acc
  | m :: ms, acc => joinP ms (acc ++ [44, 32] ++ m)
theorem joinP_app : ∀ (ms : List (List UInt8)) (acc : List UInt8), joinP ms acc = acc ++ ms.flatMap (fun m => [44, 32] ++ m)
  | [], acc => by simp [joinP]
  | m :: ms, acc => by rw [joinP, joinP_app ms]; simp
theorem joinL_cons (m : List UInt8) : ∀ ms : List (List UInt8), joinC (m :: ms) = joinP ms m
  | [] => rfl
  | m2 :: ms => by
    rw [joinP_app]
    show m ++ [44, 32] ++ joinC (m2 :: ms) = _
    rw [joinL_cons m2 ms, joinP_app]; simp
theorem joinC_more {ms : List (List UInt8)} {k : Nat} (h : k < ms.length) : joinC (ms.take (k + 1)) = if k = 0 then ms[k] else joinC (ms.take k) ++ [44, 32] ++ ms[k] := by
  match ms, k, h with
  | m :: ms, 0, h => rfl
  | m :: ms, k + 1, h =>
    simp only [List.length_cons] at h
    have hk : k < ms.length := by omega
    rw [if_neg (by omega), List.take_succ_cons, List.take_succ_cons, joinL_cons, joinL_cons, joinP_app, joinP_app, List.take_add_one, List.getElem?_eq_getElem hk, List.flatMap_append]
    simp

end Go.Proofs.Ytlcojfkkeommoaa.Asc
