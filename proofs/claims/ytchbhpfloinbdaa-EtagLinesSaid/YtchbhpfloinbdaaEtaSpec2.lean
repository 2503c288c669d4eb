/- Plain facts for EtagLines: texts of entity tags without a backslash, joined and cut again; the tags of a list, each second one weak. No program is named here. -/
import Derived.Test.YtchbhpfloinbdaaEtaSpec
set_option linter.unusedVariables false
set_option linter.unusedSimpArgs false
set_option maxRecDepth 100000
namespace Go.Proofs.Ytchbhpfloinbdaa.Asc

theorem tag_no34 {t : List UInt8} (h : tagT t = true) : ∀ c ∈ t, c ≠ 34 := by
  intro c hc e
  have := List.all_eq_true.mp h c hc
  subst e
  exact absurd this (by decide)
theorem nc_tag : ∀ (t : List UInt8), (∀ c ∈ t, c ≠ 34 ∧ c ≠ 92) → ncL 44 true (t ++ [34]) = true
  | [], _ => by rw [List.nil_append, nc_quo (by decide) rfl]; rfl
  | c :: r, h => by
    obtain ⟨h1, h2⟩ := h c (by simp)
    rw [List.cons_append, nc_any (fun q => h2 q.2) h1 (fun q => by cases q.2)]
    exact nc_tag r (fun d hd => h d (by simp [hd]))
theorem end_tag : ∀ (t : List UInt8) (f : Nat), (t ++ [34]).length ≤ f → (∀ c ∈ t, c ≠ 34 ∧ c ≠ 92) → endF f true (t ++ [34]) = false
  | [], 0, hf, _ => by simp at hf
  | [], f + 1, _, _ => by rw [List.nil_append, endF_cons, if_neg (by decide), if_pos rfl, endF_nil]; rfl
  | c :: r, 0, hf, _ => by simp at hf
  | c :: r, f + 1, hf, h => by
    obtain ⟨h1, h2⟩ := h c (by simp)
    rw [List.cons_append, endF_cons, if_neg (fun q => h2 q.2), if_neg h1]
    exact end_tag r f (by simp only [List.cons_append, List.length_cons] at hf; omega) (fun d hd => h d (by simp [hd]))
theorem trim_ends {m : List UInt8} (h1 : ∀ c r, m = c :: r → blankB c = false) (h2 : ∀ c r, m = r ++ [c] → blankB c = false) : trimL m = m := by
  have := trim_char [] m [] (by simp) (by simp) h1 h2
  simpa using this
/-- what the text of a tag is as a member -/
theorem etag_member {e : ET} (h : tagT e.2.data.toList = true) (hb : (92 : UInt8) ∉ fmtL e) : fmtL e ≠ [] ∧ trimL (fmtL e) = fmtL e ∧ cutL 44 (fmtL e) = [fmtL e] ∧ endF (fmtL e).length false (fmtL e) = false := by
  obtain ⟨b, t⟩ := e
  have ht : tagT t.data.toList = true := h
  have hs := fmt_some h
  have hc : ∀ c ∈ t.data.toList, c ≠ 34 ∧ c ≠ 92 := fun c hc => ⟨tag_no34 ht c hc, fun e => by
    subst e; refine hb ?_; rw [hs]; simp [hc]⟩
  refine ⟨fmt_ne h, ?_, ?_⟩
  · refine trim_ends (fun c r e => ?_) (fun c r e => ?_)
    · rw [hs] at e
      cases b with
      | true => injection e with e1 _; subst e1; decide
      | false => injection e with e1 _; subst e1; decide
    · rw [hs] at e
      have e2 := congrArg List.getLast? e
      have e3 : (wkE b ++ 34 :: (t.data.toList ++ [34])).getLast? = some 34 := by
        rw [show wkE b ++ 34 :: (t.data.toList ++ [34]) = (wkE b ++ 34 :: t.data.toList) ++ [34] from by simp, List.getLast?_append]
        rfl
      rw [e3] at e2
      simp at e2
      subst e2; decide
  · have hn : ncL 44 false (fmtL (b, t)) = true := by
      rw [hs]
      cases b with
      | true =>
        show ncL 44 false (87 :: 47 :: 34 :: (t.data.toList ++ [34])) = true
        rw [nc_any (by decide) (by decide) (by decide), nc_any (by decide) (by decide) (by decide), nc_quo (by decide) rfl]
        exact nc_tag _ hc
      | false =>
        show ncL 44 false (34 :: (t.data.toList ++ [34])) = true
        rw [nc_quo (by decide) rfl]
        exact nc_tag _ hc
    refine ⟨by unfold cutL; rw [nc_cut _ false _ [] (Nat.le_refl _) hn]; rfl, ?_⟩
    rw [hs]
    cases b with
    | true =>
      show endF ((t.data.toList ++ [34]).length + 1 + 1 + 1) false (87 :: 47 :: 34 :: (t.data.toList ++ [34])) = false
      rw [endF_cons, if_neg (by decide), if_neg (by decide), endF_cons, if_neg (by decide), if_neg (by decide), endF_cons, if_neg (by decide), if_pos rfl]
      exact end_tag _ _ (Nat.le_refl _) hc
    | false =>
      show endF ((t.data.toList ++ [34]).length + 1) false (34 :: (t.data.toList ++ [34])) = false
      rw [endF_cons, if_neg (by decide), if_pos rfl]
      exact end_tag _ _ (Nat.le_refl _) hc
/-- no place of the byte -/
theorem idx_not : ∀ {l : List UInt8} {c : UInt8}, Lib.indexByte l c = -1 → c ∉ l
  | [], c, _ => by simp
  | b :: l, c, h => by
    unfold Lib.indexByte at h
    by_cases hb : b = c
    · subst hb; simp at h
    · have hb1 : (b == c) = false := by simpa using hb
      simp only [hb1, Bool.false_eq_true, if_false] at h
      have hg := Lib.indexByte_ge l c
      by_cases e : Lib.indexByte l c = -1
      · have ih := idx_not e
        intro hm
        rcases List.mem_cons.mp hm with q | q
        · exact hb q.symm
        · exact ih q
      · have e2 : (Lib.indexByte l c == -1) = false := by simpa using e
        simp only [e2, Bool.false_eq_true, if_false] at h
        omega
/-- the texts and the tags of a list, each second one weak -/
def oddB (i : Nat) : Bool := decide (i % 2 = 1)
def fmtK (L : List ByteArray) : List ByteArray := L.mapIdx fun i t => bs (fmtL (oddB i, t))
def tagsE (L : List ByteArray) : List ET := L.mapIdx fun i t => (oddB i, t)
theorem fmtK_len (L : List ByteArray) : (fmtK L).length = L.length := by simp [fmtK]
theorem tagsE_len (L : List ByteArray) : (tagsE L).length = L.length := by simp [tagsE]
theorem fmtK_at {L : List ByteArray} {i : Nat} (h : i < L.length) (h2 : i < (fmtK L).length) : (fmtK L)[i] = bs (fmtL (oddB i, L[i])) := by simp [fmtK]
theorem tagsE_at {L : List ByteArray} {i : Nat} (h : i < L.length) (h2 : i < (tagsE L).length) : (tagsE L)[i] = (oddB i, L[i]) := by simp [tagsE]
def GoodK (L : List ByteArray) : Prop := ∀ i (h : i < L.length), tagT L[i].data.toList = true ∧ (92 : UInt8) ∉ fmtL (oddB i, L[i])
theorem fmtK_all {L : List ByteArray} (h : GoodK L) : ∀ k, k ≤ L.length → parAll ((fmtK L).take k) = some ((tagsE L).take k)
  | 0, _ => rfl
  | k + 1, hk => by
    have hk1 : k < L.length := by omega
    have h1 : k < (fmtK L).length := by rw [fmtK_len]; exact hk1
    have h2 : k < (tagsE L).length := by rw [tagsE_len]; exact hk1
    rw [parAll_next h1 (fmtK_all h k (by omega)) (e := (tagsE L)[k]) (by rw [fmtK_at hk1, bs_toList, tagsE_at hk1]; exact par_fmt (h k hk1).1), ← take_next h2]
theorem fmtK_list {L : List ByteArray} (h : GoodK L) (h1 : 1 ≤ L.length) (h2 : L.length < 64) : listM (fmtK L) = (tagsE L, false, true) := by
  have hp := fmtK_all h L.length (Nat.le_refl _)
  rw [List.take_of_length_le (by rw [fmtK_len]; omega), List.take_of_length_le (by rw [tagsE_len]; omega)] at hp
  have hs : starM (fmtK L) = false := by
    unfold starM
    rw [decide_eq_false_iff_not]
    intro e
    rw [e] at hp
    exact absurd hp (by
      show (match parE [42], parAll [] with | some e, some es => some (e :: es) | _, _ => none) ≠ _
      rw [show parE [42] = none from by decide]
      simp)
  unfold listM
  rw [hs, if_neg (by simp), if_neg (by rw [fmtK_len]; omega), hp]
/-- the name that the law asks for, and as the second field has it -/
def inmN : ByteArray := ⟨#[73, 102, 45, 78, 111, 110, 101, 45, 77, 97, 116, 99, 104]⟩
def inmL : ByteArray := ⟨#[105, 102, 45, 110, 111, 110, 101, 45, 109, 97, 116, 99, 104]⟩
theorem inm_get (a b : ByteArray) : getL inmN [(inmN, a), (inmL, b)] = [a, b] := by
  have h1 : nmd inmN (inmN, a) = true := by show foldL inmN.data.toList inmN.data.toList = true; decide +kernel
  have h2 : nmd inmN (inmL, b) = true := by show foldL inmL.data.toList inmN.data.toList = true; decide +kernel
  unfold getL
  rw [List.filter_cons, if_pos h1, List.filter_cons, if_pos h2]; rfl
theorem etag_split {M : List ByteArray} (h : ∀ m ∈ M, ∃ e : ET, m = bs (fmtL e) ∧ tagT e.2.data.toList = true ∧ (92 : UInt8) ∉ fmtL e) (hl : M.length ≤ 64) :
    splitL (joinC (M.map fun x => x.data.toList)) = M.map fun x => x.data.toList := by
  unfold splitL
  rw [join_mem _ (fun m hm => by
    obtain ⟨x, hx, rfl⟩ := List.mem_map.mp hm
    obtain ⟨e, rfl, h1, h2⟩ := h x hx
    rw [bs_toList]
    exact etag_member h1 h2)]
  exact List.take_of_length_le (by rw [List.length_map]; exact hl)
theorem map_bs (M : List ByteArray) : (M.map fun x => x.data.toList).map bs = M := by
  rw [List.map_map]
  have : (bs ∘ fun x : ByteArray => x.data.toList) = id := by funext x; exact (bs_of x).symm
  rw [this, List.map_id]

end Go.Proofs.Ytchbhpfloinbdaa.Asc
