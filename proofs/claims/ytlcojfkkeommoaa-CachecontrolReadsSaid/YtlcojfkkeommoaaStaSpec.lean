/- Plain functions on lists of bytes: what the functions of layer 2 compute. No program is named here. -/
import Derived.Test.YtlcojfkkeommoaaAscSpec2
import Derived.Lib.IndexLaws
set_option linter.unusedVariables false
set_option linter.unusedSimpArgs false
set_option maxRecDepth 100000
namespace Go.Proofs.Ytlcojfkkeommoaa.Asc

/-- a string out of a list of bytes, as a word that no rule opens -/
def bs (l : List UInt8) : ByteArray := ⟨l.toArray⟩
theorem bs_toList (l : List UInt8) : (bs l).data.toList = l := rfl
theorem bs_size (l : List UInt8) : (bs l).size = l.length := rfl
theorem bs_of (s : ByteArray) : s = bs s.data.toList := rfl
theorem bs_inj {a b : List UInt8} (h : bs a = bs b) : a = b := by
  have := congrArg (fun s : ByteArray => s.data.toList) h
  simpa [bs_toList] using this
theorem toList_bs (l : List UInt8) : (bs l).toList = l := by rw [ByteArray.toList_eq]; rfl
theorem toList_data (s : ByteArray) : s.toList = s.data.toList := ByteArray.toList_eq s
theorem ext_bs (s : ByteArray) (a b : Nat) : s.extract a b = bs ((s.data.toList.take b).drop a) := by
  apply ByteArray.ext
  rw [ByteArray.data_extract]
  apply Array.toList_inj.mp
  rw [Array.toList_extract, List.extract_eq_take_drop, List.drop_take]
  rfl

/-- the index of the first c from place k on, or -1 -/
def idxF (l : List UInt8) (c : UInt8) (k : Nat) : Int := if Lib.indexByte (l.drop k) c = -1 then -1 else k + Lib.indexByte (l.drop k) c
theorem idxF_hit {l : List UInt8} {c : UInt8} {k : Nat} (h : k < l.length) (hc : l[k] = c) : idxF l c k = k := by
  unfold idxF; rw [List.drop_eq_getElem_cons h, hc]; simp [Lib.indexByte]
theorem idxF_miss {l : List UInt8} {c : UInt8} {k : Nat} (h : k < l.length) (hc : l[k] ≠ c) : idxF l c k = idxF l c (k + 1) := by
  unfold idxF; rw [List.drop_eq_getElem_cons h]
  have hg := Lib.indexByte_ge (l.drop (k + 1)) c
  have : (l[k] == c) = false := by simpa using hc
  simp only [Lib.indexByte, this]
  by_cases e : Lib.indexByte (l.drop (k + 1)) c = -1
  · simp [e]
  · have e2 : (Lib.indexByte (l.drop (k + 1)) c == -1) = false := by simpa using e
    simp only [e2, if_neg e, Bool.false_eq_true, if_false]
    rw [if_neg (by omega)]; push_cast; omega
theorem idxF_end {l : List UInt8} {c : UInt8} {k : Nat} (h : l.length ≤ k) : idxF l c k = -1 := by
  unfold idxF; rw [List.drop_of_length_le h]; simp [Lib.indexByte]
theorem idxF_none {l : List UInt8} {c : UInt8} {k : Nat} (h : idxF l c k < 0) : Lib.indexByte (l.drop k) c = -1 := by
  unfold idxF at h
  have hg := Lib.indexByte_ge (l.drop k) c
  by_cases e : Lib.indexByte (l.drop k) c = -1
  · exact e
  · rw [if_neg e] at h; omega
theorem idxF_some {l : List UInt8} {c : UInt8} {k : Nat} (h : ¬ idxF l c k < 0) : ∃ o : Nat, Lib.indexByte (l.drop k) c = o ∧ idxF l c k = ((k + o : Nat) : Int) ∧ k + o < l.length := by
  unfold idxF at h ⊢
  have hg := Lib.indexByte_ge (l.drop k) c
  by_cases e : Lib.indexByte (l.drop k) c = -1
  · rw [if_pos e] at h; omega
  · obtain ⟨o, ho⟩ : ∃ o : Nat, Lib.indexByte (l.drop k) c = o := ⟨(Lib.indexByte (l.drop k) c).toNat, by omega⟩
    refine ⟨o, ho, by rw [if_neg e, ho]; push_cast; rfl, ?_⟩
    have := (Lib.indexByte_some ho).1
    have h2 := (List.getElem?_eq_some_iff.mp this).1
    rw [List.length_drop] at h2; omega

/-- before the first c, behind it, and whether there is one -/
def cut1 (c : UInt8) (l : List UInt8) : List UInt8 := l.takeWhile (· != c)
def cut2 (c : UInt8) (l : List UInt8) : List UInt8 := (l.dropWhile (· != c)).drop 1
def cutB (c : UInt8) (l : List UInt8) : Bool := l.contains c
theorem cut_no : ∀ {l : List UInt8} {c : UInt8}, Lib.indexByte l c = -1 → cut1 c l = l ∧ cut2 c l = [] ∧ cutB c l = false
  | [], c, _ => ⟨rfl, rfl, rfl⟩
  | b :: l, c, h => by
    unfold Lib.indexByte at h
    by_cases hb : b = c
    · subst hb; simp at h
    · have hb1 : (b == c) = false := by simpa using hb
      have hb2 : (b != c) = true := by simpa using hb
      have hb3 : (c == b) = false := by simpa using fun e => hb e.symm
      simp only [hb1, Bool.false_eq_true, if_false] at h
      have hg := Lib.indexByte_ge l c
      by_cases e : Lib.indexByte l c = -1
      · have ih := cut_no e
        refine ⟨by simp only [cut1, List.takeWhile_cons, hb2, if_true]; congr 1; exact ih.1, by simp only [cut2, List.dropWhile_cons, hb2, if_true]; exact ih.2.1, by simp only [cutB, List.contains_cons, hb3, Bool.false_or]; exact ih.2.2⟩
      · have e2 : (Lib.indexByte l c == -1) = false := by simpa using e
        simp only [e2, Bool.false_eq_true, if_false] at h; omega
theorem cut_at : ∀ {l : List UInt8} {c : UInt8} {k : Nat}, Lib.indexByte l c = (k : Int) → k < l.length ∧ cut1 c l = l.take k ∧ cut2 c l = l.drop (k + 1) ∧ cutB c l = true
  | [], c, k, h => by simp [Lib.indexByte] at h
  | b :: l, c, k, h => by
    unfold Lib.indexByte at h
    by_cases hb : b = c
    · subst hb; simp at h
      have : k = 0 := by omega
      subst this; simp [cut1, cut2, cutB]
    · have hb1 : (b == c) = false := by simpa using hb
      have hb2 : (b != c) = true := by simpa using hb
      have hb3 : (c == b) = false := by simpa using fun e => hb e.symm
      simp only [hb1, Bool.false_eq_true, if_false] at h
      have hg := Lib.indexByte_ge l c
      by_cases e : Lib.indexByte l c = -1
      · simp [e] at h
      · have e2 : (Lib.indexByte l c == -1) = false := by simpa using e
        simp only [e2, Bool.false_eq_true, if_false] at h
        obtain ⟨j, rfl⟩ : ∃ j, k = j + 1 := ⟨k - 1, by omega⟩
        have ih := cut_at (l := l) (c := c) (k := j) (by push_cast at h; omega)
        refine ⟨by simpa using ih.1, by simp only [cut1, List.takeWhile_cons, hb2, if_true, List.take_succ_cons]; congr 1; exact ih.2.1, by simp only [cut2, List.dropWhile_cons, hb2, if_true, List.drop_succ_cons]; exact ih.2.2.1, by simp only [cutB, List.contains_cons, hb3, Bool.false_or]; exact ih.2.2.2⟩
/-- the shape of what was cut -/
theorem cut_join {c : UInt8} {l : List UInt8} (h : cutB c l = true) : l = cut1 c l ++ c :: cut2 c l := by
  by_cases e : Lib.indexByte l c = -1
  · rw [(cut_no e).2.2] at h; cases h
  · obtain ⟨k, hk⟩ : ∃ k : Nat, Lib.indexByte l c = k := ⟨(Lib.indexByte l c).toNat, by have := Lib.indexByte_ge l c; omega⟩
    have hc := cut_at hk
    have hh := (Lib.indexByte_some hk).1
    rw [hc.2.1, hc.2.2.1]
    have hg : l[k] = c := (List.getElem?_eq_some_iff.mp hh).2
    rw [← hg, ← List.drop_eq_getElem_cons hc.1, List.take_append_drop]
theorem cut_app {c : UInt8} {a b : List UInt8} (h : c ∉ a) : cut1 c (a ++ c :: b) = a ∧ cut2 c (a ++ c :: b) = b ∧ cutB c (a ++ c :: b) = true := by
  have ha : ∀ x ∈ a, (x != c) = true := fun x hx => by
    rw [bne_iff_ne]; intro e; subst e; exact h hx
  refine ⟨?_, ?_, by simp [cutB]⟩
  · simp only [cut1]; rw [List.takeWhile_append_of_pos ha]; simp
  · simp only [cut2]; rw [List.dropWhile_append_of_pos ha]; simp
theorem cut1_not (c : UInt8) (l : List UInt8) : c ∉ cut1 c l := by
  intro h
  have := List.all_takeWhile (l := l) (p := (· != c))
  have h2 := List.all_eq_true.mp this c h
  simp at h2

def visI (b : Int) : Bool := decide (33 ≤ b ∧ b ≤ 126)
def visL (l : List UInt8) : Bool := !l.isEmpty && allI visI l

def http5 : List UInt8 := [72, 84, 84, 80, 47]
def ver10 : List UInt8 := [72, 84, 84, 80, 47, 49, 46, 48]
def ver11 : List UInt8 := [72, 84, 84, 80, 47, 49, 46, 49]
def isVerL (l : List UInt8) : Bool := decide (l.length = 8) && (l.take 5 == http5) && digitI (l.getD 5 0).toNat && (((l.getD 6 0).toNat : Int) == 46) && digitI (l.getD 7 0).toNat
def verM (l : List UInt8) : Int := if l = ver11 then 1 else 0
def verE (l : List UInt8) : Int := if isVerL l = false then 1 else if l = ver10 ∨ l = ver11 then 0 else 3
theorem isVer_ex {l : List UInt8} (h : isVerL l = true) : ∃ a b : UInt8, l = [72, 84, 84, 80, 47, a, 46, b] ∧ digitI a.toNat = true ∧ digitI b.toNat = true := by
  simp only [isVerL, Bool.and_eq_true, decide_eq_true_eq] at h
  obtain ⟨⟨⟨⟨h1, h2⟩, h3⟩, h4⟩, h5⟩ := h
  obtain ⟨x0, x1, x2, x3, x4, x5, x6, x7, rfl⟩ : ∃ x0 x1 x2 x3 x4 x5 x6 x7, l = [x0, x1, x2, x3, x4, x5, x6, x7] := by
    match l, h1 with
    | [x0, x1, x2, x3, x4, x5, x6, x7], _ => exact ⟨x0, x1, x2, x3, x4, x5, x6, x7, rfl⟩
  simp [http5] at h2
  obtain ⟨rfl, rfl, rfl, rfl, rfl⟩ := h2
  have e6 : x6 = 46 := byte_eq (n := 46) h4 (by omega)
  subst e6
  exact ⟨x5, x7, rfl, h3, h5⟩
theorem ver10_is : isVerL ver10 = true := by decide
theorem ver11_is : isVerL ver11 = true := by decide
theorem verE_no {l : List UInt8} (h : isVerL l = false) : verE l = 1 := by unfold verE; rw [if_pos h]
theorem verE_10 : verE ver10 = 0 := by decide
theorem verE_11 : verE ver11 = 0 := by decide
theorem verM_10 : verM ver10 = 0 := by decide
theorem verM_11 : verM ver11 = 1 := by decide
theorem verE_other {l : List UInt8} (h : isVerL l = true) (h0 : l ≠ ver10) (h1 : l ≠ ver11) : verE l = 3 := by
  unfold verE; rw [if_neg (by simp [h]), if_neg (by simp [h0, h1])]
theorem verM_other {l : List UInt8} (h1 : l ≠ ver11) : verM l = 0 := by unfold verM; rw [if_neg h1]
theorem verE_ok {l : List UInt8} (h : verE l = 0) : l = ver10 ∨ l = ver11 := by
  unfold verE at h
  split at h
  · omega
  · split at h
    · assumption
    · omega

/-- method, target, minor version, error -/
def reqL (l : List UInt8) : List UInt8 × List UInt8 × Int × Int :=
  if 2000 < l.length then ([], [], 0, 4)
  else if (tokL (cut1 32 l) && visL (cut1 32 (cut2 32 l))) = false then ([], [], 0, 1)
  else if verE (cut2 32 (cut2 32 l)) ≠ 0 then ([], [], 0, verE (cut2 32 (cut2 32 l)))
  else (cut1 32 l, cut1 32 (cut2 32 l), verM (cut2 32 (cut2 32 l)), 0)
theorem req_long {l : List UInt8} (h : 2000 < l.length) : reqL l = ([], [], 0, 4) := by unfold reqL; rw [if_pos h]
theorem req_bad {l : List UInt8} (h : ¬ 2000 < l.length) (h2 : (tokL (cut1 32 l) && visL (cut1 32 (cut2 32 l))) = false) : reqL l = ([], [], 0, 1) := by
  unfold reqL; rw [if_neg h, if_pos h2]
theorem req_ver {l : List UInt8} (h : ¬ 2000 < l.length) (h1 : tokL (cut1 32 l) = true) (h2 : visL (cut1 32 (cut2 32 l)) = true) (h3 : verE (cut2 32 (cut2 32 l)) ≠ 0) : reqL l = ([], [], 0, verE (cut2 32 (cut2 32 l))) := by
  unfold reqL; rw [if_neg h, if_neg (by simp [h1, h2]), if_pos h3]
theorem req_ok {l : List UInt8} (h : ¬ 2000 < l.length) (h1 : tokL (cut1 32 l) = true) (h2 : visL (cut1 32 (cut2 32 l)) = true) (h3 : verE (cut2 32 (cut2 32 l)) = 0) : reqL l = (cut1 32 l, cut1 32 (cut2 32 l), verM (cut2 32 (cut2 32 l)), 0) := by
  unfold reqL; rw [if_neg h, if_neg (by simp [h1, h2]), if_neg (by simp [h3])]
theorem visL_nil : visL [] = false := rfl
theorem req_cut0 {l : List UInt8} (h : ¬ 2000 < l.length) (h0 : Lib.indexByte l 32 = -1) : reqL l = ([], [], 0, 1) := by
  refine req_bad h ?_
  rw [(cut_no h0).2.1]; simp [cut1, visL_nil]
theorem verE_nil : verE [] = 1 := by decide
theorem req_cut1 {l : List UInt8} (h : ¬ 2000 < l.length) (h0 : Lib.indexByte (cut2 32 l) 32 = -1) : reqL l = ([], [], 0, 1) := by
  rcases e : (tokL (cut1 32 l) && visL (cut1 32 (cut2 32 l))) with _ | _
  · exact req_bad h e
  · simp only [Bool.and_eq_true] at e
    have hv : verE (cut2 32 (cut2 32 l)) = 1 := by rw [(cut_no h0).2.1]; exact verE_nil
    rw [req_ver h e.1 e.2 (by rw [hv]; omega), hv]

/-- minor version, status, reason, error -/
def codeL (l : List UInt8) : Option Int := match numL l with | some n => if l.length = 3 ∧ 100 ≤ n ∧ n ≤ 599 then some n else none | none => none
def staL (l : List UInt8) : Int × Int × List UInt8 × Int :=
  if 2000 < l.length then (0, 0, [], 4)
  else if (cutB 32 (cut2 32 l) && (codeL (cut1 32 (cut2 32 l))).isSome && textL (cut2 32 (cut2 32 l))) = false then (0, 0, [], 1)
  else if verE (cut1 32 l) ≠ 0 then (0, 0, [], verE (cut1 32 l))
  else (verM (cut1 32 l), (codeL (cut1 32 (cut2 32 l))).getD 0, cut2 32 (cut2 32 l), 0)
theorem sta_long {l : List UInt8} (h : 2000 < l.length) : staL l = (0, 0, [], 4) := by unfold staL; rw [if_pos h]
theorem sta_bad {l : List UInt8} (h : ¬ 2000 < l.length) (h2 : (cutB 32 (cut2 32 l) && (codeL (cut1 32 (cut2 32 l))).isSome && textL (cut2 32 (cut2 32 l))) = false) : staL l = (0, 0, [], 1) := by
  unfold staL; rw [if_neg h, if_pos h2]
theorem sta_ver {l : List UInt8} (h : ¬ 2000 < l.length) (h2 : (cutB 32 (cut2 32 l) && (codeL (cut1 32 (cut2 32 l))).isSome && textL (cut2 32 (cut2 32 l))) = true) (h3 : verE (cut1 32 l) ≠ 0) : staL l = (0, 0, [], verE (cut1 32 l)) := by
  unfold staL; rw [if_neg h, if_neg (by simp [h2]), if_pos h3]
theorem sta_ok {l : List UInt8} (h : ¬ 2000 < l.length) (h2 : (cutB 32 (cut2 32 l) && (codeL (cut1 32 (cut2 32 l))).isSome && textL (cut2 32 (cut2 32 l))) = true) (h3 : verE (cut1 32 l) = 0) : staL l = (verM (cut1 32 l), (codeL (cut1 32 (cut2 32 l))).getD 0, cut2 32 (cut2 32 l), 0) := by
  unfold staL; rw [if_neg h, if_neg (by simp [h2]), if_neg (by simp [h3])]

end Go.Proofs.Ytlcojfkkeommoaa.Asc
