/- Merged texts: AscSpec AscSpec2 AscSpec3 StaSpec LanSpec LstSpec AscBytes. -/
import Derived.Test.YtcjngcafaenhbaaRows
import Derived.Laws.Strings
import Derived.Lib.IndexLaws
import Derived.Outline
import Derived.WalkKit
import Derived.WalkLawsBesides
import Derived.WalkSpells
set_option linter.unusedVariables false
set_option linter.unusedSimpArgs false
set_option maxRecDepth 100000
namespace Go.Proofs.Ytcjngcafaenhbaa.Asc
section
def letterI (b : Int) : Bool := decide (97 ≤ b ∧ b ≤ 122) || decide (65 ≤ b ∧ b ≤ 90)
def digitI (b : Int) : Bool := decide (48 ≤ b ∧ b ≤ 57)
def lowI (b : Int) : Int := if 65 ≤ b ∧ b ≤ 90 then b + 32 else b
def lowL (l : List UInt8) : List UInt8 := l.map fun c => UInt8.ofNat (lowI c.toNat).toNat
theorem take_snoc (s : ByteArray) (k : Nat) (h : k < s.size) : s.data.toList.take (k + 1) = s.data.toList.take k ++ [s[k]] := by
  rw [List.take_succ_eq_append_getElem (by simpa using h)]; rfl
/-- the inside of a quoted string, its backslashes resolved -/
def unescL : List UInt8 → Option (List UInt8)
  | [] => some []
  | [c] => if c = 34 ∨ c = 92 then none else some [c]
  | c :: d :: r => if c = 34 then none else if c = 92 then (unescL r).map (d :: ·) else (unescL (d :: r)).map (c :: ·)
/-- what has been read so far is acc, what is left is the list from k on -/
def UnAt (l : List UInt8) (k : Nat) (acc : List UInt8) : Prop := acc.length ≤ k ∧ unescL l = (unescL (l.drop k)).map (acc ++ ·)
theorem UnAt.start (l : List UInt8) : UnAt l 0 [] := ⟨by simp, by simp⟩
/-- the last decimal digit of m, as a byte -/
def digB (m : Nat) : UInt8 := UInt8.ofNat (48 + m % 10)
/-- the decimal digits of m ahead of acc, at most f of them, at least one -/
def decF : Nat → Nat → List UInt8 → List UInt8
  | 0, _, acc => acc
  | f + 1, m, acc => if m / 10 = 0 then digB m :: acc else decF f (m / 10) (digB m :: acc)
/-- the digits acc have been written, m is left of N -/
def DecAt (N m : Nat) (acc : List UInt8) : Prop :=
  decF (20 - acc.length) m acc = decF 20 N [] ∧ m * 10 ^ acc.length ≤ 9223372036854775808 ∧ (acc.length = 0 ∨ 1 ≤ m)
theorem DecAt.start {N : Nat} (h : N ≤ 9223372036854775808) : DecAt N N [] := ⟨rfl, by simpa using h, .inl rfl⟩
theorem DecAt.len {N m : Nat} {acc : List UInt8} (h : DecAt N m acc) : acc.length ≤ 18 := by
  rcases h.2.2 with h0 | h1
  · omega
  · rcases Nat.lt_or_ge 18 acc.length with hl | hl
    · have a1 : 10 ^ 19 ≤ 10 ^ acc.length := Nat.pow_le_pow_right (by omega) hl
      have a2 : 10 ^ acc.length ≤ m * 10 ^ acc.length := Nat.le_mul_of_pos_left _ h1
      have a3 := h.2.1
      omega
    · exact hl
end
section
def foldL (a b : List UInt8) : Bool := decide (lowL a = lowL b)
def lowB (c : UInt8) : UInt8 := UInt8.ofNat (lowI c.toNat).toNat
theorem lowL_map (l : List UInt8) : lowL l = l.map lowB := rfl
theorem lowB_inj {c d : UInt8} (h : lowI c.toNat = lowI d.toNat) : lowB c = lowB d := by unfold lowB; rw [h]
theorem lowI_of {c d : UInt8} (h : lowB c = lowB d) : lowI c.toNat = lowI d.toNat := by
  have hb : ∀ x : UInt8, ((lowB x).toNat : Int) = lowI x.toNat := fun x => by
    have := x.toNat_lt
    unfold lowB; rw [UInt8.toNat_ofNat']
    unfold lowI; split <;> omega
  rw [← hb, ← hb, h]
theorem fold_len {a b : ByteArray} (h : ¬ a.size = b.size) : foldL a.data.toList b.data.toList = false := by
  unfold foldL; rw [decide_eq_false]; intro e
  have := congrArg List.length e
  simp [lowL] at this; exact h this
theorem fold_more {a b : ByteArray} {k : Nat} (h : lowL (a.data.toList.take k) = lowL (b.data.toList.take k)) (ha : k < a.size) (hb : k < b.size) (hc : lowI a[k].toNat = lowI b[k].toNat) : lowL (a.data.toList.take (k + 1)) = lowL (b.data.toList.take (k + 1)) := by
  rw [take_snoc a k ha, take_snoc b k hb]
  simp only [lowL_map] at h ⊢
  rw [List.map_append, List.map_append, h, List.map_cons, List.map_cons, lowB_inj hc]
theorem fold_not {a b : ByteArray} {k : Nat} (ha : k < a.size) (hb : k < b.size) (hc : ¬ lowI a[k].toNat = lowI b[k].toNat) : foldL a.data.toList b.data.toList = false := by
  unfold foldL; rw [decide_eq_false]; intro e
  have h1 := congrArg (fun l : List UInt8 => l[k]?) e
  rw [lowL_map, lowL_map] at h1
  simp only [List.getElem?_map] at h1
  rw [List.getElem?_eq_getElem (by simpa using ha), List.getElem?_eq_getElem (by simpa using hb)] at h1
  simp only [Option.map_some, Option.some.injEq] at h1
  exact hc (lowI_of h1)
theorem fold_end {a b : ByteArray} {k : Nat} (h : lowL (a.data.toList.take k) = lowL (b.data.toList.take k)) (ha : a.size ≤ k) (hb : b.size ≤ k) : foldL a.data.toList b.data.toList = true := by
  rw [List.take_of_length_le (by simpa using ha), List.take_of_length_le (by simpa using hb)] at h
  unfold foldL; rw [decide_eq_true h]
end
section
theorem low_low (l : List UInt8) : lowL (lowL l) = lowL l := by
  have h : ∀ c, lowB (lowB c) = lowB c := fun c => by
    have hc := c.toNat_lt
    have e : ((lowB c).toNat : Int) = lowI c.toNat := by
      unfold lowB; rw [UInt8.toNat_ofNat']; unfold lowI; split <;> omega
    apply lowB_inj
    rw [e]
    unfold lowI
    split
    · omega
    · omega
  simp only [lowL_map, List.map_map]
  exact List.map_congr_left fun c _ => h c
theorem fold_symm (a b : List UInt8) : foldL b a = foldL a b := by unfold foldL; exact decide_eq_decide.mpr ⟨Eq.symm, Eq.symm⟩
theorem fold_refl (a : List UInt8) : foldL a a = true := by unfold foldL; exact decide_eq_true rfl
end
section
/-- a string out of a list of bytes, as a word that no rule opens -/
def bs (l : List UInt8) : ByteArray := ⟨l.toArray⟩
theorem bs_toList (l : List UInt8) : (bs l).data.toList = l := rfl
theorem bs_size (l : List UInt8) : (bs l).size = l.length := rfl
theorem toList_data (s : ByteArray) : s.toList = s.data.toList := ByteArray.toList_eq s
theorem ext_bs (s : ByteArray) (a b : Nat) : s.extract a b = bs ((s.data.toList.take b).drop a) := by
  apply ByteArray.ext
  rw [ByteArray.data_extract]
  apply Array.toList_inj.mp
  rw [Array.toList_extract, List.extract_eq_take_drop, List.drop_take]
  rfl
/-- the index of the first c from place k on, or -1 -/
def idxF (l : List UInt8) (c : UInt8) (k : Nat) : Int := if Lib.indexByte (l.drop k) c = -1 then -1 else k + Lib.indexByte (l.drop k) c
theorem idxF_hit {l : List UInt8} {c : UInt8} {k : Nat} (h : k < l.length) (hc : l[k] = c) : idxF l c k = k := by
  unfold idxF; rw [List.drop_eq_getElem_cons h, hc]; simp [Lib.indexByte]
theorem idxF_miss {l : List UInt8} {c : UInt8} {k : Nat} (h : k < l.length) (hc : l[k] ≠ c) : idxF l c k = idxF l c (k + 1) := by
  unfold idxF; rw [List.drop_eq_getElem_cons h]
  have hg := Lib.indexByte_ge (l.drop (k + 1)) c
  have : (l[k] == c) = false := by simpa using hc
  simp only [Lib.indexByte, this]
  by_cases e : Lib.indexByte (l.drop (k + 1)) c = -1
  · simp [e]
  · have e2 : (Lib.indexByte (l.drop (k + 1)) c == -1) = false := by simpa using e
    simp only [e2, if_neg e, Bool.false_eq_true, if_false]
    rw [if_neg (by omega)]; push_cast; omega
theorem idxF_end {l : List UInt8} {c : UInt8} {k : Nat} (h : l.length ≤ k) : idxF l c k = -1 := by
  unfold idxF; rw [List.drop_of_length_le h]; simp [Lib.indexByte]
theorem idxF_none {l : List UInt8} {c : UInt8} {k : Nat} (h : idxF l c k < 0) : Lib.indexByte (l.drop k) c = -1 := by
  unfold idxF at h
  have hg := Lib.indexByte_ge (l.drop k) c
  by_cases e : Lib.indexByte (l.drop k) c = -1
  · exact e
  · rw [if_neg e] at h; omega
theorem idxF_some {l : List UInt8} {c : UInt8} {k : Nat} (h : ¬ idxF l c k < 0) : ∃ o : Nat, Lib.indexByte (l.drop k) c = o ∧ idxF l c k = ((k + o : Nat) : Int) ∧ k + o < l.length := by
  unfold idxF at h ⊢
  have hg := Lib.indexByte_ge (l.drop k) c
  by_cases e : Lib.indexByte (l.drop k) c = -1
  · rw [if_pos e] at h; omega
  · obtain ⟨o, ho⟩ : ∃ o : Nat, Lib.indexByte (l.drop k) c = o := ⟨(Lib.indexByte (l.drop k) c).toNat, by omega⟩
    refine ⟨o, ho, by rw [if_neg e, ho]; push_cast; rfl, ?_⟩
    have := (Lib.indexByte_some ho).1
    have h2 := (List.getElem?_eq_some_iff.mp this).1
    rw [List.length_drop] at h2; omega
/-- before the first c, behind it, and whether there is one -/
def cut1 (c : UInt8) (l : List UInt8) : List UInt8 := l.takeWhile (· != c)
def cut2 (c : UInt8) (l : List UInt8) : List UInt8 := (l.dropWhile (· != c)).drop 1
def cutB (c : UInt8) (l : List UInt8) : Bool := l.contains c
theorem cut_no : ∀ {l : List UInt8} {c : UInt8}, Lib.indexByte l c = -1 → cut1 c l = l ∧ cut2 c l = [] ∧ cutB c l = false
  | [], c, _ => ⟨rfl, rfl, rfl⟩
  | b :: l, c, h => by
    unfold Lib.indexByte at h
    by_cases hb : b = c
    · subst hb; simp at h
    · have hb1 : (b == c) = false := by simpa using hb
      have hb2 : (b != c) = true := by simpa using hb
      have hb3 : (c == b) = false := by simpa using fun e => hb e.symm
      simp only [hb1, Bool.false_eq_true, if_false] at h
      have hg := Lib.indexByte_ge l c
      by_cases e : Lib.indexByte l c = -1
      · have ih := cut_no e
        refine ⟨by simp only [cut1, List.takeWhile_cons, hb2, if_true]; congr 1; exact ih.1, by simp only [cut2, List.dropWhile_cons, hb2, if_true]; exact ih.2.1, by simp only [cutB, List.contains_cons, hb3, Bool.false_or]; exact ih.2.2⟩
      · have e2 : (Lib.indexByte l c == -1) = false := by simpa using e
        simp only [e2, Bool.false_eq_true, if_false] at h; omega
theorem cut_at : ∀ {l : List UInt8} {c : UInt8} {k : Nat}, Lib.indexByte l c = (k : Int) → k < l.length ∧ cut1 c l = l.take k ∧ cut2 c l = l.drop (k + 1) ∧ cutB c l = true
  | [], c, k, h => by simp [Lib.indexByte] at h
  | b :: l, c, k, h => by
    unfold Lib.indexByte at h
    by_cases hb : b = c
    · subst hb; simp at h
      have : k = 0 := by omega
      subst this; simp [cut1, cut2, cutB]
    · have hb1 : (b == c) = false := by simpa using hb
      have hb2 : (b != c) = true := by simpa using hb
      have hb3 : (c == b) = false := by simpa using fun e => hb e.symm
      simp only [hb1, Bool.false_eq_true, if_false] at h
      have hg := Lib.indexByte_ge l c
      by_cases e : Lib.indexByte l c = -1
      · simp [e] at h
      · have e2 : (Lib.indexByte l c == -1) = false := by simpa using e
        simp only [e2, Bool.false_eq_true, if_false] at h
        obtain ⟨j, rfl⟩ : ∃ j, k = j + 1 := ⟨k - 1, by omega⟩
        have ih := cut_at (l := l) (c := c) (k := j) (by push_cast at h; omega)
        refine ⟨by simpa using ih.1, by simp only [cut1, List.takeWhile_cons, hb2, if_true, List.take_succ_cons]; congr 1; exact ih.2.1, by simp only [cut2, List.dropWhile_cons, hb2, if_true, List.drop_succ_cons]; exact ih.2.2.1, by simp only [cutB, List.contains_cons, hb3, Bool.false_or]; exact ih.2.2.2⟩
/-- the shape of what was cut -/
theorem cut_join {c : UInt8} {l : List UInt8} (h : cutB c l = true) : l = cut1 c l ++ c :: cut2 c l := by
  by_cases e : Lib.indexByte l c = -1
  · rw [(cut_no e).2.2] at h; cases h
  · obtain ⟨k, hk⟩ : ∃ k : Nat, Lib.indexByte l c = k := ⟨(Lib.indexByte l c).toNat, by have := Lib.indexByte_ge l c; omega⟩
    have hc := cut_at hk
    have hh := (Lib.indexByte_some hk).1
    rw [hc.2.1, hc.2.2.1]
    have hg : l[k] = c := (List.getElem?_eq_some_iff.mp hh).2
    rw [← hg, ← List.drop_eq_getElem_cons hc.1, List.take_append_drop]
theorem cut1_not (c : UInt8) (l : List UInt8) : c ∉ cut1 c l := by
  intro h
  have := List.all_takeWhile (l := l) (p := (· != c))
  have h2 := List.all_eq_true.mp this c h
  simp at h2
end
section
/-- the pieces between hyphens -/
def subL : List UInt8 → List (List UInt8)
  | [] => [[]]
  | c :: r => if c = 45 then [] :: subL r else match subL r with
    | [] => [[c]]
    | x :: xs => (c :: x) :: xs
def joinS : List (List UInt8) → List UInt8
  | [] => []
  | [x] => x
  | x :: y :: r => x ++ 45 :: joinS (y :: r)
theorem subL_cons (l : List UInt8) : ∃ x xs, subL l = x :: xs := by
  match l with
  | [] => exact ⟨_, _, rfl⟩
  | c :: r =>
    unfold subL
    split
    · exact ⟨_, _, rfl⟩
    · split
      · exact ⟨_, _, rfl⟩
      · exact ⟨_, _, rfl⟩
theorem subL_hyp (r : List UInt8) : subL (45 :: r) = [] :: subL r := by show (if (45 : UInt8) = 45 then _ else _) = _; rw [if_pos rfl]
theorem subL_chr {c : UInt8} {r x : List UInt8} {xs : List (List UInt8)} (hc : ¬ c = 45) (e : subL r = x :: xs) : subL (c :: r) = (c :: x) :: xs := by
  show (if c = 45 then [] :: subL r else match subL r with | [] => [[c]] | x :: xs => (c :: x) :: xs) = _
  rw [if_neg hc, e]
theorem sub_no : ∀ {l : List UInt8}, (45 : UInt8) ∉ l → subL l = [l]
  | [], _ => rfl
  | c :: r, h => by
    have hc : ¬ c = 45 := fun e => h (by simp [e])
    exact subL_chr hc (sub_no (l := r) (fun e => h (by simp [e])))
theorem sub_at : ∀ {a b : List UInt8}, (45 : UInt8) ∉ a → subL (a ++ 45 :: b) = a :: subL b
  | [], b, _ => subL_hyp b
  | c :: r, b, h => by
    have hc : ¬ c = 45 := fun e => h (by simp [e])
    exact subL_chr hc (sub_at (a := r) (fun e => h (by simp [e])))
theorem join_sub : ∀ l : List UInt8, joinS (subL l) = l
  | [] => rfl
  | c :: r => by
    have ih := join_sub r
    obtain ⟨x, xs, e⟩ := subL_cons r
    rw [e] at ih
    unfold subL
    by_cases hc : c = 45
    · rw [if_pos hc, e]; show [] ++ 45 :: joinS (x :: xs) = _; rw [ih, hc]; rfl
    · rw [if_neg hc, e]
      show joinS ((c :: x) :: xs) = _
      rw [← ih]
      cases xs with
      | nil => rfl
      | cons y ys => rfl
theorem sub_mem : ∀ (l : List UInt8), ∀ x ∈ subL l, (45 : UInt8) ∉ x ∧ x.length ≤ l.length
  | [], x, h => by simp [subL] at h; subst h; simp
  | c :: r, x, h => by
    have ih := sub_mem r
    obtain ⟨y, ys, e⟩ := subL_cons r
    unfold subL at h
    by_cases hc : c = 45
    · rw [if_pos hc] at h
      rcases List.mem_cons.1 h with rfl | h
      · simp
      · have := ih x h; simp only [List.length_cons]; exact ⟨this.1, by omega⟩
    · rw [if_neg hc, e] at h
      rcases List.mem_cons.1 h with rfl | h
      · have := ih y (by rw [e]; simp)
        refine ⟨?_, by simp only [List.length_cons]; omega⟩
        intro hm
        rcases List.mem_cons.1 hm with q | q
        · exact hc q.symm
        · exact this.1 q
      · have := ih x (by rw [e]; simp [h]); simp only [List.length_cons]; exact ⟨this.1, by omega⟩
theorem sub_join : ∀ {L : List (List UInt8)}, L ≠ [] → (∀ x ∈ L, (45 : UInt8) ∉ x) → subL (joinS L) = L
  | [], h, _ => absurd rfl h
  | [x], _, h => sub_no (h x (by simp))
  | x :: y :: r, _, h => by
    show subL (x ++ 45 :: joinS (y :: r)) = _
    rw [sub_at (h x (by simp)), sub_join (by simp) (fun z hz => h z (by simp [hz]))]
theorem sub_count : ∀ l : List UInt8, (subL l).length ≤ l.length + 1
  | [] => by simp [subL]
  | c :: r => by
    have ih := sub_count r
    unfold subL
    split
    · simp only [List.length_cons]; omega
    · split
      · simp
      · rename_i x xs e; rw [e] at ih; simp only [List.length_cons] at ih ⊢; omega
def lettI (b : Int) : Bool := decide (97 ≤ b ∧ b ≤ 122) || decide (65 ≤ b ∧ b ≤ 90)
def subOk (first : Bool) (x : List UInt8) : Bool := decide (1 ≤ x.length ∧ x.length ≤ 8) && x.all fun c => lettI c.toNat || (!first && digitI c.toNat)
def subsOk : List (List UInt8) → Bool
  | [] => true
  | x :: xs => subOk true x && xs.all (subOk false)
def tagL (l : List UInt8) : Bool := subsOk (subL l)
def rangeT (l : List UInt8) : Bool := decide (l = [42]) || tagL l
def prefS : List (List UInt8) → List (List UInt8) → Bool
  | [], _ => true
  | _ :: _, [] => false
  | x :: xs, y :: ys => foldL x y && prefS xs ys
def matchT (r t : List UInt8) : Int :=
  if (rangeT r && tagL t) = false then -1
  else if r = [42] then 0
  else if prefS (subL r) (subL t) = true then ((subL r).length : Int) else -1
/-- is the tag t matched by the range r? -/
def hitT (r t : ByteArray) : Bool := decide (0 ≤ matchT r.data.toList t.data.toList)
/-- the indices below n of the tags that the range matches and that are not in acc -/
def oneT (r : ByteArray) (T : List ByteArray) (acc : List Nat) (n : Nat) : List Nat := (List.range n).filter fun k => decide (k ∉ acc) && hitT r (T.getD k ⟨#[]⟩)
def filtT (T : List ByteArray) : List ByteArray → List Nat → List Nat
  | [], acc => acc
  | r :: R, acc => filtT T R (acc ++ oneT r T acc T.length)
/-- the last subtag is removed, and the one before it if it is a single byte -/
def cutS (L : List (List UInt8)) : List (List UInt8) :=
  if (L.dropLast.getLast?.map List.length) = some 1 then L.dropLast.dropLast else L.dropLast
/-- the first tag that equals -/
def findT (x : List UInt8) (T : List ByteArray) : Option Nat := T.findIdx? fun t => foldL x t.data.toList
def lookF (T : List ByteArray) : Nat → List (List UInt8) → Int
  | 0, _ => -1
  | f + 1, L => if L = [] then -1 else match findT (joinS L) T with
    | some k => (k : Int)
    | none => lookF T f (cutS L)
def lookT (r : List UInt8) (T : List ByteArray) : Int := if tagL r = true then lookF T (subL r).length (subL r) else -1
end
section
abbrev F := ByteArray × ByteArray
end
section
open Go.RowKit
theorem ret_bool {a b : Bool} (h : a = b) : Ending.returned (.bool a) = .returned (.bool b) := by rw [h]
theorem ret_int {k : IntKind} {a b : Int} (h : a = b) : Ending.returned (.int k a) = .returned (.int k b) := by rw [h]
theorem eqb_t {a b : Int} (h : (a == b) = true) : a = b := by simpa using h
theorem rDigit_any (b : Int) (w : World) (h0 : 0 ≤ b) (h1 : b ≤ 255) :
    Calls Try.prog 29 #[.int .u8 b] w fun e w' => e = .returned (.bool (digitI b)) ∧ w = w' := by
  go_enter Try.func29, Try.ntmps29
  go_wp2
  all_goals (go_ret; exact ⟨ret_bool (by rw [Bool.eq_iff_iff]; simp [digitI]; omega), rfl⟩)
theorem lowerByte_any (b : Int) (w : World) (h0 : 0 ≤ b) (h1 : b ≤ 255) :
    Calls Try.prog 40 #[.int .u8 b] w fun e w' => e = .returned (.int .u8 (lowI b)) ∧ w = w' := by
  go_enter Try.func40, Try.ntmps40
  go_wp2
  all_goals (go_ret; exact ⟨ret_int (by unfold lowI; split <;> omega), rfl⟩)
end
end Go.Proofs.Ytcjngcafaenhbaa.Asc
