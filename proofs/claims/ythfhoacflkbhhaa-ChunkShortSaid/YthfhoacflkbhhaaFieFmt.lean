/- The contracts of the functions of layer 3 on one field, and of the reference's. -/
import Derived.Test.YthfhoacflkbhhaaFieSpec
import Derived.Test.YthfhoacflkbhhaaStaCut
import Derived.Test.YthfhoacflkbhhaaAscTrim
import Derived.Test.YthfhoacflkbhhaaFieMem
import Derived.Deep.RegionHeld3
set_option linter.unusedVariables false
set_option linter.unusedSimpArgs false
namespace Go.Proofs.Ythfhoacflkbhhaa.Asc
open Go.RowKit

theorem nil_of_empty {v : ByteArray} (h : v.toList.isEmpty = true) : v.data.toList = [] := by
  rw [toList_data] at h; exact List.isEmpty_iff.mp h
theorem ne_of_empty {v : ByteArray} (h : v.toList.isEmpty = false) : v.data.toList ≠ [] := by
  rw [toList_data] at h; intro e; rw [e] at h; cases h
theorem size_list (v : ByteArray) : v.data.toList.length = v.size := by simp
theorem formattedBytes_any (n v : ByteArray) (w : World) (hn : n.size ≤ 65536) (hv : v.size ≤ 65536) :
    Calls Try.prog 49 #[.agg #[.string n, .string v]] w fun e w' => e = .returned (.int .i64 (lineN n.data.toList v.data.toList)) ∧ Below w.heap.size w w' := by
  go_enter Try.func49, Try.ntmps49
  go_wp2
  · have h : v.toList.isEmpty = true := by assumption
    go_ret
    refine ⟨ret_int ?_, below_new _ _⟩
    unfold lineN; rw [if_pos (nil_of_empty h), size_list]; push_cast; rfl
  · have h : v.toList.isEmpty = false := by assumption
    go_ret
    refine ⟨ret_int ?_, below_new _ _⟩
    unfold lineN; rw [if_neg (ne_of_empty h), size_list, size_list]; push_cast; omega

theorem tok_q {s : ByteArray} {w : World} {b : Bool} (hs : Box (s.size ≤ maxLen)) (h : Box (tokL s.data.toList = b)) : Calls Try.prog 60 #[.string s] w fun e w' => e = .returned (.bool b) ∧ w' = w :=
  (Token_any s w hs.out).mono fun e w' ⟨h1, h2⟩ => ⟨by rw [h1, h.out], h2.symm⟩
theorem text_q {s : ByteArray} {w : World} {b : Bool} (hs : Box (s.size ≤ maxLen)) (h : Box (textL s.data.toList = b)) : Calls Try.prog 44 #[.string s] w fun e w' => e = .returned (.bool b) ∧ w' = w :=
  (Text_any s w hs.out).mono fun e w' ⟨h1, h2⟩ => ⟨by rw [h1, h.out], h2.symm⟩
theorem trim_q {s : ByteArray} {w : World} (hs : Box (s.size ≤ maxLen)) : Calls Try.prog 47 #[.string s] w fun e w' => e = .returned (.string (bs (trimL s.data.toList))) ∧ w' = w :=
  (Trim_any s w hs.out).mono fun e w' ⟨h1, h2⟩ => ⟨h1, h2.symm⟩

theorem isWellFormed_tok (n v : ByteArray) (w : World) (N : Box (n.size ≤ maxLen)) (V : Box (v.size ≤ maxLen)) (H1 : Box (tokL n.data.toList = false)) :
    Calls Try.prog 48 #[.agg #[.string n, .string v]] w fun e w' => e = .returned (.bool (wellL n.data.toList v.data.toList)) ∧ Below w.heap.size w w' := by
  go_enter Try.func48, Try.ntmps48
  go_wp2_with fail
  go_quiet ((go_at_call 60; exact Calls.quiet_of_same (tok_q N H1)))
  go_wp2
  go_ret
  exact ⟨by unfold wellL; rw [H1.out]; rfl, below_new1 _ _ _⟩
theorem isWellFormed_text (n v : ByteArray) (w : World) (N : Box (n.size ≤ maxLen)) (V : Box (v.size ≤ maxLen)) (H1 : Box (tokL n.data.toList = true)) (H2 : Box (textL v.data.toList = false)) :
    Calls Try.prog 48 #[.agg #[.string n, .string v]] w fun e w' => e = .returned (.bool (wellL n.data.toList v.data.toList)) ∧ Below w.heap.size w w' := by
  go_enter Try.func48, Try.ntmps48
  go_wp2_with fail
  go_quiet (first | (go_at_call 60; exact Calls.quiet_of_same (tok_q N H1)) | (go_at_call 44; exact Calls.quiet_of_same (text_q V H2)))
  go_wp2
  go_ret
  exact ⟨by unfold wellL; rw [H1.out, H2.out]; rfl, below_new1 _ _ _⟩
theorem isWellFormed_trim (n v : ByteArray) (w : World) (N : Box (n.size ≤ maxLen)) (V : Box (v.size ≤ maxLen)) (H1 : Box (tokL n.data.toList = true)) (H2 : Box (textL v.data.toList = true)) :
    Calls Try.prog 48 #[.agg #[.string n, .string v]] w fun e w' => e = .returned (.bool (wellL n.data.toList v.data.toList)) ∧ Below w.heap.size w w' := by
  go_enter Try.func48, Try.ntmps48
  go_wp2_with fail
  go_quiet (first | (go_at_call 60; exact Calls.quiet_of_same (tok_q N H1)) | (go_at_call 44; exact Calls.quiet_of_same (text_q V H2)) | (go_at_call 47; exact Calls.quiet_of_same (trim_q V)))
  go_wp2
  go_ret
  refine ⟨ret_bool ?_, below_new1 _ _ _⟩
  show ((bs (trimL v.data.toList)).toList == v.toList) = _
  unfold wellL; rw [H1.out, H2.out, toList_bs, toList_data]; rfl
theorem isWellFormed_any (n v : ByteArray) (w : World) (N : Box (n.size ≤ maxLen)) (V : Box (v.size ≤ maxLen)) :
    Calls Try.prog 48 #[.agg #[.string n, .string v]] w fun e w' => e = .returned (.bool (wellL n.data.toList v.data.toList)) ∧ Below w.heap.size w w' := by
  rcases h1 : tokL n.data.toList with _ | _
  · exact isWellFormed_tok n v w N V (box h1)
  · rcases h2 : textL v.data.toList with _ | _
    · exact isWellFormed_text n v w N V (box h1) (box h2)
    · exact isWellFormed_trim n v w N V (box h1) (box h2)


theorem valid_len {n v : List UInt8} (h : ¬ lineN n v ≤ 2000) : validL n v = false := by unfold validL; simp [h]
theorem valid_well {n v : List UInt8} (h : lineN n v ≤ 2000) : validL n v = wellL n v := by unfold validL; simp [h]

/-- the two cells of a field in a block of its own -/
theorem fld_cell {w w' : World} {n v : ByteArray} {t : TypeId} (hb : Below (w.alloc (.cells #[.string n, .string v] t)).heap.size (w.alloc (.cells #[.string n, .string v] t)) w') :
    w'.cell? ⟨w.heap.size, 0, none⟩ = some (.string n) ∧ w'.cell? ⟨w.heap.size, 1, none⟩ = some (.string v) := by
  constructor <;> (rw [hb.cell (by simp)]; rw [World.cell?_alloc_mark]; rfl)
theorem line_nil {n v : ByteArray} (h : v.toList.isEmpty = true) : n ++ ⟨#[58]⟩ = bs (lineL n.data.toList v.data.toList) := by
  unfold lineL; rw [if_pos (nil_of_empty h)]
  apply ByteArray.ext
  apply Array.toList_inj.mp
  simp [ByteArray.data_append, bs]
theorem line_cons {n v : ByteArray} (h : v.toList.isEmpty = false) : n ++ ⟨#[58, 32]⟩ ++ v = bs (lineL n.data.toList v.data.toList) := by
  unfold lineL; rw [if_neg (ne_of_empty h)]
  apply ByteArray.ext
  simp [ByteArray.data_append, bs]
theorem fmtF_no {n v : List UInt8} (h : validL n v = false) : fmtFL n v = [] := by unfold fmtFL; rw [if_neg (by simp [h])]
theorem fmtF_yes {n v : List UInt8} (h : validL n v = true) : fmtFL n v = lineL n v := by unfold fmtFL; rw [if_pos h]
theorem ret_string {a b : ByteArray} (h : a = b) : Ending.returned (.string a) = .returned (.string b) := by rw [h]
theorem rform_any (n v : ByteArray) (w : World) (N : Box (n.size ≤ 65536)) (V : Box (v.size ≤ 65536)) :
    Calls Try.prog 30 #[.agg #[.string n, .string v]] w fun e w' => e = .returned (.string (bs (lineL n.data.toList v.data.toList))) ∧ Below w.heap.size w w' := by
  have hn := N.out
  have hv := V.out
  go_enter Try.func30, Try.ntmps30
  go_wp2
  · have h : v.toList.isEmpty = true := by assumption
    go_ret
    exact ⟨ret_string (line_nil h), below_new _ _⟩
  · have h : v.toList.isEmpty = false := by assumption
    go_ret
    exact ⟨ret_string (line_cons h), below_new _ _⟩

theorem rtok_q {s : ByteArray} {w : World} {b : Bool} (hs : Box (s.size ≤ maxLen)) (h : Box (tokL s.data.toList = b)) : Calls Try.prog 28 #[.string s] w fun e w' => e = .returned (.bool b) ∧ w' = w :=
  (rToken_any s w hs.out).mono fun e w' ⟨h1, h2⟩ => ⟨by rw [h1, h.out], h2.symm⟩
theorem rtext_q {s : ByteArray} {w : World} {b : Bool} (hs : Box (s.size ≤ maxLen)) (h : Box (textL s.data.toList = b)) : Calls Try.prog 13 #[.string s] w fun e w' => e = .returned (.bool b) ∧ w' = w :=
  (rText_any s w hs.out).mono fun e w' ⟨h1, h2⟩ => ⟨by rw [h1, h.out], h2.symm⟩
theorem rtrim_q {s : ByteArray} {w : World} (hs : Box (s.size ≤ maxLen)) : Calls Try.prog 29 #[.string s] w fun e w' => e = .returned (.string (bs (trimL s.data.toList))) ∧ w' = w :=
  (rTrim_any s w hs.out).mono fun e w' ⟨h1, h2⟩ => ⟨h1, h2.symm⟩

theorem rValid_tok (n v : ByteArray) (w : World) (N : Box (n.size ≤ 65536)) (V : Box (v.size ≤ 65536)) (H1 : Box (tokL n.data.toList = false)) :
    Calls Try.prog 14 #[.agg #[.string n, .string v]] w fun e w' => e = .returned (.bool (validL n.data.toList v.data.toList)) ∧ Below w.heap.size w w' := by
  go_enter Try.func14, Try.ntmps14
  go_wp2_with fail
  go_quiet ((go_at_call 28; exact Calls.quiet_of_same (rtok_q (small_max N) H1)))
  go_wp2
  go_ret
  exact ⟨by unfold validL wellL; rw [H1.out]; rfl, below_new1 _ _ _⟩
theorem rValid_text (n v : ByteArray) (w : World) (N : Box (n.size ≤ 65536)) (V : Box (v.size ≤ 65536)) (H1 : Box (tokL n.data.toList = true)) (H2 : Box (textL v.data.toList = false)) :
    Calls Try.prog 14 #[.agg #[.string n, .string v]] w fun e w' => e = .returned (.bool (validL n.data.toList v.data.toList)) ∧ Below w.heap.size w w' := by
  go_enter Try.func14, Try.ntmps14
  go_wp2_with fail
  go_quiet (first | (go_at_call 28; exact Calls.quiet_of_same (rtok_q (small_max N) H1)) | (go_at_call 13; exact Calls.quiet_of_same (rtext_q (small_max V) H2)))
  go_wp2
  go_ret
  exact ⟨by unfold validL wellL; rw [H1.out, H2.out]; rfl, below_new1 _ _ _⟩
theorem rValid_trim (n v : ByteArray) (w : World) (N : Box (n.size ≤ 65536)) (V : Box (v.size ≤ 65536)) (H1 : Box (tokL n.data.toList = true)) (H2 : Box (textL v.data.toList = true)) (h3 : ((bs (trimL v.data.toList)).toList == v.toList) = false) :
    Calls Try.prog 14 #[.agg #[.string n, .string v]] w fun e w' => e = .returned (.bool (validL n.data.toList v.data.toList)) ∧ Below w.heap.size w w' := by
  go_enter Try.func14, Try.ntmps14
  go_wp2_with fail
  go_quiet (first | (go_at_call 28; exact Calls.quiet_of_same (rtok_q (small_max N) H1)) | (go_at_call 13; exact Calls.quiet_of_same (rtext_q (small_max V) H2)) | (go_at_call 29; exact Calls.quiet_of_same (rtrim_q (small_max V))))
  go_wp2
  go_ret
  refine ⟨ret_bool ?_, below_new1 _ _ _⟩
  rw [toList_bs, toList_data] at h3
  unfold validL wellL; rw [H1.out, H2.out, h3]; rfl
theorem rValid_all (n v : ByteArray) (w : World) (N : Box (n.size ≤ 65536)) (V : Box (v.size ≤ 65536)) (H1 : Box (tokL n.data.toList = true)) (H2 : Box (textL v.data.toList = true)) (h3 : ((bs (trimL v.data.toList)).toList == v.toList) = true) :
    Calls Try.prog 14 #[.agg #[.string n, .string v]] w fun e w' => e = .returned (.bool (validL n.data.toList v.data.toList)) ∧ Below w.heap.size w w' := by
  go_enter Try.func14, Try.ntmps14
  go_wp2_with fail
  go_region_held3 (fun w' => w'.cell? ⟨w.heap.size, 0, none⟩ = some (.string n) ∧ w'.cell? ⟨w.heap.size, 1, none⟩ = some (.string v)) (first | go_keep | (refine ⟨?_, ?_⟩ <;> (rw [hb1.cell (by simp)]; first | assumption | (simp; done))))
    (first | (go_at_call 28; refine (rtok_q (small_max N) H1).mono ?_; rintro e w1 ⟨rfl, rfl⟩) | (go_at_call 13; refine (rtext_q (small_max V) H2).mono ?_; rintro e w1 ⟨rfl, rfl⟩) | (go_at_call 29; refine (rtrim_q (small_max V)).mono ?_; rintro e w1 ⟨rfl, rfl⟩) | (go_at_call 30; refine (rform_any _ _ _ N V).mono ?_; rintro e w1 ⟨rfl, hb1⟩))
  go_wp2
  go_ret
  refine ⟨ret_bool ?_, ?_⟩
  · rw [bs_size, lineN_eq]
    rw [toList_bs, toList_data] at h3
    unfold validL wellL; rw [H1.out, H2.out, h3]; simp only [Bool.true_and, Bool.and_true]
    exact decide_eq_decide.mpr (by omega)
  · exact (below_new1 _ _ _).trans (hb1.mono (below_new1 _ _ _).size)
theorem rValidField_any (n v : ByteArray) (w : World) (N : Box (n.size ≤ 65536)) (V : Box (v.size ≤ 65536)) :
    Calls Try.prog 14 #[.agg #[.string n, .string v]] w fun e w' => e = .returned (.bool (validL n.data.toList v.data.toList)) ∧ Below w.heap.size w w' := by
  rcases h1 : tokL n.data.toList with _ | _
  · exact rValid_tok n v w N V (box h1)
  · rcases h2 : textL v.data.toList with _ | _
    · exact rValid_text n v w N V (box h1) (box h2)
    · rcases h3 : ((bs (trimL v.data.toList)).toList == v.toList) with _ | _
      · exact rValid_trim n v w N V (box h1) (box h2) h3
      · exact rValid_all n v w N V (box h1) (box h2) h3
theorem rFormatField_any (n v : ByteArray) (w : World) (N : Box (n.size ≤ 65536)) (V : Box (v.size ≤ 65536)) :
    Calls Try.prog 16 #[.agg #[.string n, .string v]] w fun e w' => e = .returned (.string (bs (fmtFL n.data.toList v.data.toList))) ∧ Below w.heap.size w w' := by
  rcases h : validL n.data.toList v.data.toList with _ | _
  · have K := box h
    clear h
    go_enter Try.func16, Try.ntmps16
    go_wp2_with fail
    refine (rValidField_any _ _ _ N V).mono ?_; rintro e w1 ⟨rfl, hb1⟩; rw [K.out]
    have b2 := (below_new w _).trans (hb1.mono (below_new w _).size)
    clear hb1
    go_wp2
    go_ret
    exact ⟨ret_string (by rw [fmtF_no K.out]; rfl), b2⟩
  · have K := box h
    clear h
    go_enter Try.func16, Try.ntmps16
    go_wp2_with fail
    refine (rValidField_any _ _ _ N V).mono ?_; rintro e w1 ⟨rfl, hb1⟩; rw [K.out]
    obtain ⟨c0, c1⟩ := fld_cell hb1
    have b2 := (below_new w _).trans (hb1.mono (below_new w _).size)
    clear hb1
    go_wp2_with fail
    refine (rform_any _ _ _ N V).mono ?_; rintro e w2 ⟨rfl, hb2⟩
    have b3 := b2.trans (hb2.mono b2.size)
    clear hb2 b2
    go_wp2
    go_ret
    exact ⟨ret_string (by rw [fmtF_yes K.out]), b3⟩

end Go.Proofs.Ythfhoacflkbhhaa.Asc
