/- Plain functions on lists of bytes: what the functions of layer 3 compute on one field. No program is named here. -/
import Derived.Test.YtlcojfkkeommoaaStaSpec
import Derived.Test.YtlcojfkkeommoaaAscSpec3
set_option linter.unusedVariables false
set_option linter.unusedSimpArgs false
set_option maxRecDepth 100000
namespace Go.Proofs.Ytlcojfkkeommoaa.Asc

/-- the length of a field's line, its line, whether it may be written -/
def lineN (n v : List UInt8) : Nat := if v = [] then n.length + 1 else n.length + 2 + v.length
def lineL (n v : List UInt8) : List UInt8 := if v = [] then n ++ [58] else n ++ [58, 32] ++ v
def wellL (n v : List UInt8) : Bool := tokL n && textL v && (trimL v == v)
def validL (n v : List UInt8) : Bool := wellL n v && decide (lineN n v ≤ 2000)
def fmtFL (n v : List UInt8) : List UInt8 := if validL n v = true then lineL n v else []
theorem lineN_eq (n v : List UInt8) : (lineL n v).length = lineN n v := by
  unfold lineL lineN; split <;> simp <;> omega

/-- name, value, error -/
def fieldL (l : List UInt8) : List UInt8 × List UInt8 × Int :=
  if 2000 < l.length then ([], [], 4)
  else if (cutB 58 l && tokL (cut1 58 l) && textL (cut2 58 l)) = false then ([], [], 1)
  else if 2000 < lineN (cut1 58 l) (trimL (cut2 58 l)) then ([], [], 4)
  else (cut1 58 l, trimL (cut2 58 l), 0)

theorem field_long {l : List UInt8} (h : 2000 < l.length) : fieldL l = ([], [], 4) := by unfold fieldL; rw [if_pos h]
theorem field_bad {l : List UInt8} (h : ¬ 2000 < l.length) (h2 : (cutB 58 l && tokL (cut1 58 l) && textL (cut2 58 l)) = false) : fieldL l = ([], [], 1) := by
  unfold fieldL; rw [if_neg h, if_pos h2]
theorem field_wide {l : List UInt8} (h : ¬ 2000 < l.length) (h2 : (cutB 58 l && tokL (cut1 58 l) && textL (cut2 58 l)) = true) (h3 : 2000 < lineN (cut1 58 l) (trimL (cut2 58 l))) : fieldL l = ([], [], 4) := by
  unfold fieldL; rw [if_neg h, if_neg (by simp [h2]), if_pos h3]
theorem field_ok {l : List UInt8} (h : ¬ 2000 < l.length) (h2 : (cutB 58 l && tokL (cut1 58 l) && textL (cut2 58 l)) = true) (h3 : ¬ 2000 < lineN (cut1 58 l) (trimL (cut2 58 l))) : fieldL l = (cut1 58 l, trimL (cut2 58 l), 0) := by
  unfold fieldL; rw [if_neg h, if_neg (by simp [h2]), if_neg h3]
theorem blank_text {c : UInt8} (h : blankB c = true) : textI c.toNat = true := by
  unfold blankB blankI at h
  unfold textI
  simp only [Bool.or_eq_true, beq_iff_eq, decide_eq_true_eq] at *
  omega

theorem text_trim (l : List UInt8) : textL (trimL l) = textL l := by
  obtain ⟨a, b, h, ha, hb, _⟩ := trim_split l
  have e : textL l = (allI textI a && (textL (trimL l) && allI textI b)) := by
    conv => lhs; rw [h]
    unfold textL allI; rw [List.all_append, List.all_append]
  have ea : allI textI a = true := List.all_eq_true.mpr fun c hc => blank_text (ha c hc)
  have eb : allI textI b = true := List.all_eq_true.mpr fun c hc => blank_text (hb c hc)
  rw [e, ea, eb]; simp
theorem trim_le (l : List UInt8) : (trimL l).length ≤ l.length := by
  obtain ⟨a, b, h, _⟩ := trim_split l
  have := congrArg List.length h
  simp at this; omega
theorem well_cut (l : List UInt8) : wellL (cut1 58 l) (trimL (cut2 58 l)) = (tokL (cut1 58 l) && textL (cut2 58 l)) := by
  unfold wellL; rw [text_trim, trim_trim]; simp
theorem cut1_short (c : UInt8) (l : List UInt8) : (cut1 c l).length ≤ l.length := by
  unfold cut1; exact List.Sublist.length_le (List.takeWhile_sublist _)
theorem cut2_short (c : UInt8) (l : List UInt8) : (cut2 c l).length ≤ l.length := by
  unfold cut2; rw [List.length_drop]
  have := List.Sublist.length_le (List.dropWhile_sublist (l := l) (· != c)); omega
theorem valid_parts {n v : List UInt8} (h : validL n v = true) : tokL n = true ∧ textL v = true ∧ trimL v = v ∧ lineN n v ≤ 2000 := by
  unfold validL wellL at h
  simp only [Bool.and_eq_true, beq_iff_eq, decide_eq_true_eq] at h
  exact ⟨h.1.1.1, h.1.1.2, h.1.2, h.2⟩
theorem colon_not {n : List UInt8} (h : tokL n = true) : (58 : UInt8) ∉ n := by
  intro hm
  unfold tokL at h
  simp only [Bool.and_eq_true] at h
  have q := List.all_eq_true.mp h.2 58 hm
  revert q; decide
theorem field_back {n v : List UInt8} (h : validL n v = true) : fieldL (lineL n v) = (n, v, 0) := by
  obtain ⟨h1, h2, h3, h4⟩ := valid_parts h
  obtain ⟨r, hr, hx, ht⟩ : ∃ r, lineL n v = n ++ 58 :: r ∧ textL r = true ∧ trimL r = v := by
    unfold lineL
    by_cases e : v = []
    · exact ⟨[], by rw [if_pos e], rfl, by rw [e]; rfl⟩
    · refine ⟨32 :: v, by rw [if_neg e]; simp, ?_, ?_⟩
      · unfold textL allI at h2 ⊢
        rw [List.all_cons, h2]; rfl
      · have := trim_around [32] [] v (by decide) (by simp)
        simp at this; rw [this, h3]
  obtain ⟨c1, c2, c3⟩ := cut_app (c := 58) (b := r) (colon_not h1)
  rw [← hr] at c1 c2 c3
  have hl := lineN_eq n v
  rw [field_ok (by omega) (by rw [c1, c2, c3, h1, hx]; rfl) (by rw [c1, c2, ht]; omega), c1, c2, ht]

end Go.Proofs.Ytlcojfkkeommoaa.Asc
