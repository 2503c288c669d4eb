/- Merged texts: FieFmt FieParse FieRef ChkRef3 TarDec TarSet TarAny. -/
import Derived.Test.YtjabcfabenobiaaGreatM01
import Derived.Test.YtjabcfabenobiaaGreatM02
import Derived.Test.YtjabcfabenobiaaGreatM03
import Derived.Deep.LoopGhost
import Derived.Deep.RegionHeld3
import Derived.Deep.WholeRow
import Derived.IntWalk
import Derived.Laws.RangeAny
import Derived.Laws.ResultCell
import Derived.Laws.Runes
import Derived.Laws.Strings3
import Derived.Laws.Tables
import Derived.Lib.AsciiSet
import Derived.Lib.DecodeN
import Derived.Lib.IndexAny
import Derived.Lib.Strings
import Derived.WalkMore
set_option linter.unusedVariables false
set_option linter.unusedSimpArgs false
set_option maxRecDepth 100000
namespace Go.Proofs.YtjabcfabenobiaaGreat.Asc
section
open Go.RowKit
theorem nil_of_empty {v : ByteArray} (h : v.toList.isEmpty = true) : v.data.toList = [] := by
  rw [toList_data] at h; exact List.isEmpty_iff.mp h
theorem ne_of_empty {v : ByteArray} (h : v.toList.isEmpty = false) : v.data.toList ≠ [] := by
  rw [toList_data] at h; intro e; rw [e] at h; cases h
theorem sizeL_of (v : ByteArray) : v.data.toList.length = v.size := by simp
theorem formattedBytes_any (n v : ByteArray) (w : World) (hn : n.size ≤ 65536) (hv : v.size ≤ 65536) :
    Calls Tryz.prog 109 #[.agg #[.string n, .string v]] w fun e w' => e = .returned (.int .i64 (lineN n.data.toList v.data.toList)) ∧ Below w.heap.size w w' := by
  go_enter Tryz.func109, Tryz.ntmps109
  go_wp2
  · have h : v.toList.isEmpty = true := by assumption
    go_ret
    refine ⟨ret_int ?_, below_new _ _⟩
    unfold lineN; rw [if_pos (nil_of_empty h), sizeL_of]; push_cast; rfl
  · have h : v.toList.isEmpty = false := by assumption
    go_ret
    refine ⟨ret_int ?_, below_new _ _⟩
    unfold lineN; rw [if_neg (ne_of_empty h), sizeL_of, sizeL_of]; push_cast; omega
theorem tok_q {s : ByteArray} {w : World} {b : Bool} (hs : Box (s.size ≤ maxLen)) (h : Box (tokL s.data.toList = b)) : Calls Tryz.prog 82 #[.string s] w fun e w' => e = .returned (.bool b) ∧ w' = w :=
  (Token_any s w hs.out).mono fun e w' ⟨h1, h2⟩ => ⟨by rw [h1, h.out], h2.symm⟩
theorem text_q {s : ByteArray} {w : World} {b : Bool} (hs : Box (s.size ≤ maxLen)) (h : Box (textL s.data.toList = b)) : Calls Tryz.prog 88 #[.string s] w fun e w' => e = .returned (.bool b) ∧ w' = w :=
  (Text_any s w hs.out).mono fun e w' ⟨h1, h2⟩ => ⟨by rw [h1, h.out], h2.symm⟩
theorem trim_q {s : ByteArray} {w : World} (hs : Box (s.size ≤ maxLen)) : Calls Tryz.prog 107 #[.string s] w fun e w' => e = .returned (.string (bs (trimL s.data.toList))) ∧ w' = w :=
  (Trim_any s w hs.out).mono fun e w' ⟨h1, h2⟩ => ⟨h1, h2.symm⟩
theorem isWellFormed_tok (n v : ByteArray) (w : World) (N : Box (n.size ≤ maxLen)) (V : Box (v.size ≤ maxLen)) (H1 : Box (tokL n.data.toList = false)) :
    Calls Tryz.prog 108 #[.agg #[.string n, .string v]] w fun e w' => e = .returned (.bool (wellL n.data.toList v.data.toList)) ∧ Below w.heap.size w w' := by
  go_enter Tryz.func108, Tryz.ntmps108
  go_wp2_with fail
  go_quiet ((go_at_call 82; exact Calls.quiet_of_same (tok_q N H1)))
  go_wp2
  go_ret
  exact ⟨by unfold wellL; rw [H1.out]; rfl, below_new1 _ _ _⟩
theorem isWellFormed_text (n v : ByteArray) (w : World) (N : Box (n.size ≤ maxLen)) (V : Box (v.size ≤ maxLen)) (H1 : Box (tokL n.data.toList = true)) (H2 : Box (textL v.data.toList = false)) :
    Calls Tryz.prog 108 #[.agg #[.string n, .string v]] w fun e w' => e = .returned (.bool (wellL n.data.toList v.data.toList)) ∧ Below w.heap.size w w' := by
  go_enter Tryz.func108, Tryz.ntmps108
  go_wp2_with fail
  go_quiet (first | (go_at_call 82; exact Calls.quiet_of_same (tok_q N H1)) | (go_at_call 88; exact Calls.quiet_of_same (text_q V H2)))
  go_wp2
  go_ret
  exact ⟨by unfold wellL; rw [H1.out, H2.out]; rfl, below_new1 _ _ _⟩
theorem isWellFormed_trim (n v : ByteArray) (w : World) (N : Box (n.size ≤ maxLen)) (V : Box (v.size ≤ maxLen)) (H1 : Box (tokL n.data.toList = true)) (H2 : Box (textL v.data.toList = true)) :
    Calls Tryz.prog 108 #[.agg #[.string n, .string v]] w fun e w' => e = .returned (.bool (wellL n.data.toList v.data.toList)) ∧ Below w.heap.size w w' := by
  go_enter Tryz.func108, Tryz.ntmps108
  go_wp2_with fail
  go_quiet (first | (go_at_call 82; exact Calls.quiet_of_same (tok_q N H1)) | (go_at_call 88; exact Calls.quiet_of_same (text_q V H2)) | (go_at_call 107; exact Calls.quiet_of_same (trim_q V)))
  go_wp2
  go_ret
  refine ⟨ret_bool ?_, below_new1 _ _ _⟩
  show ((bs (trimL v.data.toList)).toList == v.toList) = _
  unfold wellL; rw [H1.out, H2.out, toList_bs, toList_data]; rfl
theorem isWellFormed_any (n v : ByteArray) (w : World) (N : Box (n.size ≤ maxLen)) (V : Box (v.size ≤ maxLen)) :
    Calls Tryz.prog 108 #[.agg #[.string n, .string v]] w fun e w' => e = .returned (.bool (wellL n.data.toList v.data.toList)) ∧ Below w.heap.size w w' := by
  rcases h1 : tokL n.data.toList with _ | _
  · exact isWellFormed_tok n v w N V (box h1)
  · rcases h2 : textL v.data.toList with _ | _
    · exact isWellFormed_text n v w N V (box h1) (box h2)
    · exact isWellFormed_trim n v w N V (box h1) (box h2)
theorem valid_len {n v : List UInt8} (h : ¬ lineN n v ≤ 2000) : validL n v = false := by unfold validL; simp [h]
theorem valid_well {n v : List UInt8} (h : lineN n v ≤ 2000) : validL n v = wellL n v := by unfold validL; simp [h]
/-- the two cells of a field in a block of its own -/
theorem fld_cell {w w' : World} {n v : ByteArray} {t : TypeId} (hb : Below (w.alloc (.cells #[.string n, .string v] t)).heap.size (w.alloc (.cells #[.string n, .string v] t)) w') :
    w'.cell? ⟨w.heap.size, 0, none⟩ = some (.string n) ∧ w'.cell? ⟨w.heap.size, 1, none⟩ = some (.string v) := by
  constructor <;> (rw [hb.cell (by simp)]; rw [World.cell?_alloc_mark]; rfl)
theorem Valid_any (n v : ByteArray) (w : World) (N : Box (n.size ≤ 65536)) (V : Box (v.size ≤ 65536)) :
    Calls Tryz.prog 102 #[.agg #[.string n, .string v]] w fun e w' => e = .returned (.bool (validL n.data.toList v.data.toList)) ∧ Below w.heap.size w w' := by
  obtain ⟨k, hk⟩ : ∃ k, lineN n.data.toList v.data.toList = k := ⟨_, rfl⟩
  have K := box hk
  by_cases h : k ≤ 2000
  · clear hk
    go_enter Tryz.func102, Tryz.ntmps102
    go_wp2_with fail
    refine (formattedBytes_any _ _ _ N.out V.out).mono ?_; rintro e w1 ⟨rfl, hb1⟩; rw [K.out]
    obtain ⟨c0, c1⟩ := fld_cell hb1
    go_wp2_with fail
    refine (isWellFormed_any _ _ _ (small_max N) (small_max V)).mono ?_; rintro e w2 ⟨rfl, hb2⟩
    have b2 := (below_new w _).trans (hb1.mono (below_new w _).size)
    have b3 := b2.trans (hb2.mono b2.size)
    clear hb1 hb2 b2
    go_wp2
    go_ret
    exact ⟨ret_bool (valid_well (by rw [K.out]; exact h)).symm, b3⟩
  · clear hk
    go_enter Tryz.func102, Tryz.ntmps102
    go_wp2_with fail
    refine (formattedBytes_any _ _ _ N.out V.out).mono ?_; rintro e w1 ⟨rfl, hb1⟩; rw [K.out]
    have b2 := (below_new w _).trans (hb1.mono (below_new w _).size)
    clear hb1
    go_wp2
    go_ret
    exact ⟨ret_bool (valid_len (by rw [K.out]; exact h)).symm, b2⟩
theorem line_nil {n v : ByteArray} (h : v.toList.isEmpty = true) : n ++ ⟨#[58]⟩ = bs (lineL n.data.toList v.data.toList) := by
  unfold lineL; rw [if_pos (nil_of_empty h)]
  apply ByteArray.ext
  apply Array.toList_inj.mp
  simp [ByteArray.data_append, bs]
theorem line_cons {n v : ByteArray} (h : v.toList.isEmpty = false) : n ++ ⟨#[58, 32]⟩ ++ v = bs (lineL n.data.toList v.data.toList) := by
  unfold lineL; rw [if_neg (ne_of_empty h)]
  apply ByteArray.ext
  simp [ByteArray.data_append, bs]
theorem fmtF_no {n v : List UInt8} (h : validL n v = false) : fmtFL n v = [] := by unfold fmtFL; rw [if_neg (by simp [h])]
theorem fmtF_yes {n v : List UInt8} (h : validL n v = true) : fmtFL n v = lineL n v := by unfold fmtFL; rw [if_pos h]
theorem ret_string {a b : ByteArray} (h : a = b) : Ending.returned (.string a) = .returned (.string b) := by rw [h]
theorem Format_any (n v : ByteArray) (w : World) (N : Box (n.size ≤ 65536)) (V : Box (v.size ≤ 65536)) :
    Calls Tryz.prog 86 #[.agg #[.string n, .string v]] w fun e w' => e = .returned (.string (bs (fmtFL n.data.toList v.data.toList))) ∧ Below w.heap.size w w' := by
  rcases h : validL n.data.toList v.data.toList with _ | _
  · have K := box h
    clear h
    go_enter Tryz.func86, Tryz.ntmps86
    go_wp2_with fail
    refine (Valid_any _ _ _ N V).mono ?_; rintro e w1 ⟨rfl, hb1⟩; rw [K.out]
    have b2 := (below_new w _).trans (hb1.mono (below_new w _).size)
    clear hb1
    go_wp2
    go_ret
    exact ⟨ret_string (by rw [fmtF_no K.out]; rfl), b2⟩
  · have K := box h
    clear h
    have hn := N.out
    have hv := V.out
    go_enter Tryz.func86, Tryz.ntmps86
    go_wp2_with fail
    refine (Valid_any _ _ _ N V).mono ?_; rintro e w1 ⟨rfl, hb1⟩; rw [K.out]
    obtain ⟨c0, c1⟩ := fld_cell hb1
    have b2 := (below_new w _).trans (hb1.mono (below_new w _).size)
    clear hb1
    go_wp2
    · have h : v.toList.isEmpty = true := by assumption
      go_ret
      exact ⟨ret_string (by rw [fmtF_yes K.out]; exact line_nil h), b2⟩
    · have h : v.toList.isEmpty = false := by assumption
      go_ret
      exact ⟨ret_string (by rw [fmtF_yes K.out]; exact line_cons h), b2⟩
theorem rform_any (n v : ByteArray) (w : World) (N : Box (n.size ≤ 65536)) (V : Box (v.size ≤ 65536)) :
    Calls Tryz.prog 67 #[.agg #[.string n, .string v]] w fun e w' => e = .returned (.string (bs (lineL n.data.toList v.data.toList))) ∧ Below w.heap.size w w' := by
  have hn := N.out
  have hv := V.out
  go_enter Tryz.func67, Tryz.ntmps67
  go_wp2
  · have h : v.toList.isEmpty = true := by assumption
    go_ret
    exact ⟨ret_string (line_nil h), below_new _ _⟩
  · have h : v.toList.isEmpty = false := by assumption
    go_ret
    exact ⟨ret_string (line_cons h), below_new _ _⟩
theorem rtok_q {s : ByteArray} {w : World} {b : Bool} (hs : Box (s.size ≤ maxLen)) (h : Box (tokL s.data.toList = b)) : Calls Tryz.prog 52 #[.string s] w fun e w' => e = .returned (.bool b) ∧ w' = w :=
  (rToken_any s w hs.out).mono fun e w' ⟨h1, h2⟩ => ⟨by rw [h1, h.out], h2.symm⟩
theorem rtext_q {s : ByteArray} {w : World} {b : Bool} (hs : Box (s.size ≤ maxLen)) (h : Box (textL s.data.toList = b)) : Calls Tryz.prog 60 #[.string s] w fun e w' => e = .returned (.bool b) ∧ w' = w :=
  (rText_any s w hs.out).mono fun e w' ⟨h1, h2⟩ => ⟨by rw [h1, h.out], h2.symm⟩
theorem rtrim_q {s : ByteArray} {w : World} (hs : Box (s.size ≤ maxLen)) : Calls Tryz.prog 77 #[.string s] w fun e w' => e = .returned (.string (bs (trimL s.data.toList))) ∧ w' = w :=
  (rTrim_any s w hs.out).mono fun e w' ⟨h1, h2⟩ => ⟨h1, h2.symm⟩
theorem rValid_tok (n v : ByteArray) (w : World) (N : Box (n.size ≤ 65536)) (V : Box (v.size ≤ 65536)) (H1 : Box (tokL n.data.toList = false)) :
    Calls Tryz.prog 66 #[.agg #[.string n, .string v]] w fun e w' => e = .returned (.bool (validL n.data.toList v.data.toList)) ∧ Below w.heap.size w w' := by
  go_enter Tryz.func66, Tryz.ntmps66
  go_wp2_with fail
  go_quiet ((go_at_call 52; exact Calls.quiet_of_same (rtok_q (small_max N) H1)))
  go_wp2
  go_ret
  exact ⟨by unfold validL wellL; rw [H1.out]; rfl, below_new1 _ _ _⟩
theorem rValid_text (n v : ByteArray) (w : World) (N : Box (n.size ≤ 65536)) (V : Box (v.size ≤ 65536)) (H1 : Box (tokL n.data.toList = true)) (H2 : Box (textL v.data.toList = false)) :
    Calls Tryz.prog 66 #[.agg #[.string n, .string v]] w fun e w' => e = .returned (.bool (validL n.data.toList v.data.toList)) ∧ Below w.heap.size w w' := by
  go_enter Tryz.func66, Tryz.ntmps66
  go_wp2_with fail
  go_quiet (first | (go_at_call 52; exact Calls.quiet_of_same (rtok_q (small_max N) H1)) | (go_at_call 60; exact Calls.quiet_of_same (rtext_q (small_max V) H2)))
  go_wp2
  go_ret
  exact ⟨by unfold validL wellL; rw [H1.out, H2.out]; rfl, below_new1 _ _ _⟩
theorem rValid_trim (n v : ByteArray) (w : World) (N : Box (n.size ≤ 65536)) (V : Box (v.size ≤ 65536)) (H1 : Box (tokL n.data.toList = true)) (H2 : Box (textL v.data.toList = true)) (h3 : ((bs (trimL v.data.toList)).toList == v.toList) = false) :
    Calls Tryz.prog 66 #[.agg #[.string n, .string v]] w fun e w' => e = .returned (.bool (validL n.data.toList v.data.toList)) ∧ Below w.heap.size w w' := by
  go_enter Tryz.func66, Tryz.ntmps66
  go_wp2_with fail
  go_quiet (first | (go_at_call 52; exact Calls.quiet_of_same (rtok_q (small_max N) H1)) | (go_at_call 60; exact Calls.quiet_of_same (rtext_q (small_max V) H2)) | (go_at_call 77; exact Calls.quiet_of_same (rtrim_q (small_max V))))
  go_wp2
  go_ret
  refine ⟨ret_bool ?_, below_new1 _ _ _⟩
  rw [toList_bs, toList_data] at h3
  unfold validL wellL; rw [H1.out, H2.out, h3]; rfl
theorem rValid_all (n v : ByteArray) (w : World) (N : Box (n.size ≤ 65536)) (V : Box (v.size ≤ 65536)) (H1 : Box (tokL n.data.toList = true)) (H2 : Box (textL v.data.toList = true)) (h3 : ((bs (trimL v.data.toList)).toList == v.toList) = true) :
    Calls Tryz.prog 66 #[.agg #[.string n, .string v]] w fun e w' => e = .returned (.bool (validL n.data.toList v.data.toList)) ∧ Below w.heap.size w w' := by
  go_enter Tryz.func66, Tryz.ntmps66
  go_wp2_with fail
  go_region_held3 (fun w' => w'.cell? ⟨w.heap.size, 0, none⟩ = some (.string n) ∧ w'.cell? ⟨w.heap.size, 1, none⟩ = some (.string v)) (first | go_keep | (refine ⟨?_, ?_⟩ <;> (rw [hb1.cell (by simp)]; first | assumption | (simp; done))))
    (first | (go_at_call 52; refine (rtok_q (small_max N) H1).mono ?_; rintro e w1 ⟨rfl, rfl⟩) | (go_at_call 60; refine (rtext_q (small_max V) H2).mono ?_; rintro e w1 ⟨rfl, rfl⟩) | (go_at_call 77; refine (rtrim_q (small_max V)).mono ?_; rintro e w1 ⟨rfl, rfl⟩) | (go_at_call 67; refine (rform_any _ _ _ N V).mono ?_; rintro e w1 ⟨rfl, hb1⟩))
  go_wp2
  go_ret
  refine ⟨ret_bool ?_, ?_⟩
  · rw [bs_size, lineN_eq]
    rw [toList_bs, toList_data] at h3
    unfold validL wellL; rw [H1.out, H2.out, h3]; simp only [Bool.true_and, Bool.and_true]
    exact decide_eq_decide.mpr (by omega)
  · exact (below_new1 _ _ _).trans (hb1.mono (below_new1 _ _ _).size)
theorem rValidField_any (n v : ByteArray) (w : World) (N : Box (n.size ≤ 65536)) (V : Box (v.size ≤ 65536)) :
    Calls Tryz.prog 66 #[.agg #[.string n, .string v]] w fun e w' => e = .returned (.bool (validL n.data.toList v.data.toList)) ∧ Below w.heap.size w w' := by
  rcases h1 : tokL n.data.toList with _ | _
  · exact rValid_tok n v w N V (box h1)
  · rcases h2 : textL v.data.toList with _ | _
    · exact rValid_text n v w N V (box h1) (box h2)
    · rcases h3 : ((bs (trimL v.data.toList)).toList == v.toList) with _ | _
      · exact rValid_trim n v w N V (box h1) (box h2) h3
      · exact rValid_all n v w N V (box h1) (box h2) h3
end
section
open Go.RowKit
def fieldV (r : List UInt8 × List UInt8 × Int) : Value := .tuple #[.agg #[.string (bs r.1), .string (bs r.2.1)], .int .i64 r.2.2]
theorem fieldV_mk (a b : List UInt8) (e : Int) : fieldV (a, b, e) = .tuple #[.agg #[.string (bs a), .string (bs b)], .int .i64 e] := rfl
theorem Parse_long (s : ByteArray) (w : World) (hs : s.size ≤ maxLen) (h : 2000 < s.size) :
    Calls Tryz.prog 90 #[.string s] w fun e w' => e = .returned (fieldV (fieldL s.data.toList)) ∧ Below w.heap.size w w' := by
  unfold maxLen at hs
  go_enter Tryz.func90, Tryz.ntmps90
  go_wp2
  (try simp only [Exit.inBlock, Exit.then])
  refine bodyPost_ret (v := fieldV ([], [], 4)) (by rw [results_cell_tmp rfl]; go_simp; rfl) rfl ⟨?_, ?_⟩
  · rw [field_long (by rw [sizeL_of]; exact h)]
  · exact below_new w _
theorem Parse_colon (s : ByteArray) (w : World) (h : ¬ 2000 < s.size) (a b : List UInt8) (HA : Box (cut1 58 s.data.toList = a)) (HB : Box (cut2 58 s.data.toList = b)) (HC : Box (cutB 58 s.data.toList = false)) :
    Calls Tryz.prog 90 #[.string s] w fun e w' => e = .returned (fieldV (fieldL s.data.toList)) ∧ Below w.heap.size w w' := by
  have S : Box (s.size ≤ maxLen) := box (by unfold maxLen; omega)
  have B2 : Box ((bs b).size ≤ maxLen) := box (by have := cut2_short 58 s.data.toList; rw [sizeL_of, HB.out] at this; rw [bs_size]; unfold maxLen; omega)
  go_enter Tryz.func90, Tryz.ntmps90
  go_wp2_with fail
  refine (Cut_any _ _ _ S.out).mono ?_; rintro e w1 ⟨rfl, hb1⟩; unfold cutV; rw [HA.out, HB.out, HC.out]
  have r := (Fld.new ByteArray.empty ByteArray.empty w 77).below hb1 (by simp)
  have rl := r.lt
  obtain ⟨r0, r1, r2, r3⟩ := r
  have b1 := (below_new w _).trans (hb1.mono (below_new w _).size)
  clear hb1
  go_wp2_with fail
  refine (Trim_any _ _ B2.out).mono ?_; rintro e w2 ⟨rfl, rfl⟩; rw [bs_toList]
  go_wp2
  (try simp only [Exit.inBlock, Exit.then])
  refine bodyPost_ret (v := fieldV ([], [], 1)) (by rw [results_cell_tmp rfl]; go_simp; rfl) rfl ⟨?_, ?_⟩
  · rw [field_bad (by rw [sizeL_of]; exact h) (by rw [HC.out]; rfl)]
  · exact (below_set2 b1 _ _).alloc (by simpa using b1.size) _
theorem Parse_bad (s : ByteArray) (w : World) (h : ¬ 2000 < s.size) (a b : List UInt8) (HA : Box (cut1 58 s.data.toList = a)) (HB : Box (cut2 58 s.data.toList = b)) (HC : Box (cutB 58 s.data.toList = true)) (HW : Box ((tokL a && textL b) = false)) :
    Calls Tryz.prog 90 #[.string s] w fun e w' => e = .returned (fieldV (fieldL s.data.toList)) ∧ Below w.heap.size w w' := by
  have S : Box (s.size ≤ maxLen) := box (by unfold maxLen; omega)
  have A : Box (a.length ≤ 2000) := box (by rw [← HA.out]; have := cut1_short 58 s.data.toList; rw [sizeL_of] at this; omega)
  have B : Box (b.length ≤ 2000) := box (by rw [← HB.out]; have := cut2_short 58 s.data.toList; rw [sizeL_of] at this; omega)
  have A2 : Box ((bs a).size ≤ maxLen) := box (by have := A.out; rw [bs_size]; unfold maxLen; omega)
  have B2 : Box ((bs b).size ≤ maxLen) := box (by have := B.out; rw [bs_size]; unfold maxLen; omega)
  have T2 : Box ((bs (trimL b)).size ≤ maxLen) := box (by have := B.out; have := trim_le b; rw [bs_size]; unfold maxLen; omega)
  have K : Box (wellL a (trimL b) = false) := box (by have := well_cut s.data.toList; rw [HA.out, HB.out, HW.out] at this; exact this)
  go_enter Tryz.func90, Tryz.ntmps90
  go_wp2_with fail
  refine (Cut_any _ _ _ S.out).mono ?_; rintro e w1 ⟨rfl, hb1⟩; unfold cutV; rw [HA.out, HB.out, HC.out]
  have r := (Fld.new ByteArray.empty ByteArray.empty w 77).below hb1 (by simp)
  have b1 := (below_new w _).trans (hb1.mono (below_new w _).size)
  clear hb1
  go_wp2_with fail
  refine (Trim_any _ _ B2.out).mono ?_; rintro e w2 ⟨rfl, rfl⟩; rw [bs_toList]
  have R := box r
  clear r
  go_wp2_with fail
  refine (isWellFormed_any (bs a) (bs (trimL b)) _ A2 T2).mono ?_; rintro e w2 ⟨rfl, hb2⟩; rw [bs_toList, bs_toList, K.out]
  obtain ⟨r0, r1, r2, r3⟩ := (R.out.more _).below hb2 (R.out.more _).lt
  have b3 := (b1.alloc b1.size _).trans (hb2.mono (b1.alloc b1.size _).size)
  clear hb2 b1
  go_wp2
  (try simp only [Exit.inBlock, Exit.then])
  refine bodyPost_ret (v := fieldV ([], [], 1)) (by rw [results_cell_tmp rfl]; go_simp; rfl) rfl ⟨?_, ?_⟩
  · rw [field_bad (by rw [sizeL_of]; exact h) (by rw [HA.out, HB.out, HC.out, Bool.true_and, HW.out])]
  · exact below_set2 b3 _ _
theorem Parse_fit (s : ByteArray) (w : World) (h : ¬ 2000 < s.size) (a b : List UInt8) (k : Nat) (HA : Box (cut1 58 s.data.toList = a)) (HB : Box (cut2 58 s.data.toList = b)) (HC : Box (cutB 58 s.data.toList = true)) (HW : Box ((tokL a && textL b) = true)) (HK : Box (lineN a (trimL b) = k)) :
    Calls Tryz.prog 90 #[.string s] w fun e w' => e = .returned (fieldV (fieldL s.data.toList)) ∧ Below w.heap.size w w' := by
  have S : Box (s.size ≤ maxLen) := box (by unfold maxLen; omega)
  have A : Box (a.length ≤ 2000) := box (by rw [← HA.out]; have := cut1_short 58 s.data.toList; rw [sizeL_of] at this; omega)
  have B : Box (b.length ≤ 2000) := box (by rw [← HB.out]; have := cut2_short 58 s.data.toList; rw [sizeL_of] at this; omega)
  have A2 : Box ((bs a).size ≤ 65536) := box (by have := A.out; rw [bs_size]; omega)
  have B2 : Box ((bs b).size ≤ maxLen) := box (by have := B.out; rw [bs_size]; unfold maxLen; omega)
  have T2 : Box ((bs (trimL b)).size ≤ 65536) := box (by have := B.out; have := trim_le b; rw [bs_size]; omega)
  have K : Box (wellL a (trimL b) = true) := box (by have := well_cut s.data.toList; rw [HA.out, HB.out, HW.out] at this; exact this)
  go_enter Tryz.func90, Tryz.ntmps90
  go_wp2_with fail
  refine (Cut_any _ _ _ S.out).mono ?_; rintro e w1 ⟨rfl, hb1⟩; unfold cutV; rw [HA.out, HB.out, HC.out]
  have r := (Fld.new ByteArray.empty ByteArray.empty w 77).below hb1 (by simp)
  have b1 := (below_new w _).trans (hb1.mono (below_new w _).size)
  clear hb1
  go_wp2_with fail
  refine (Trim_any _ _ B2.out).mono ?_; rintro e w2 ⟨rfl, rfl⟩; rw [bs_toList]
  have R := box r
  clear r
  go_wp2_with fail
  refine (isWellFormed_any (bs a) (bs (trimL b)) _ (small_max A2) (small_max T2)).mono ?_; rintro e w2 ⟨rfl, hb2⟩; rw [bs_toList, bs_toList, K.out]
  have R2 := box ((R.out.more _).below hb2 (R.out.more _).lt)
  have F2 := box ((Fld.new (bs a) (bs (trimL b)) w1 77).below hb2 (by simp))
  have b3 := (b1.alloc b1.size _).trans (hb2.mono (b1.alloc b1.size _).size)
  clear hb2
  obtain ⟨c0, c1, _, _⟩ := F2.out
  go_wp2_with fail
  refine (formattedBytes_any (bs a) (bs (trimL b)) _ A2.out T2.out).mono ?_; rintro e w3 ⟨rfl, hb3⟩; rw [bs_toList, bs_toList, HK.out]
  have b4 := b3.trans (hb3.mono b3.size)
  clear c0 c1
  obtain ⟨c0, c1, _, _⟩ := F2.out.below hb3 F2.out.lt
  obtain ⟨r0, r1, r2, r3⟩ := R2.out.below hb3 R2.out.lt
  clear hb3 b3 b1
  by_cases hk : 2000 < k
  · go_wp2
    (try simp only [Exit.inBlock, Exit.then])
    refine bodyPost_ret (v := fieldV ([], [], 4)) (by rw [results_cell_tmp rfl]; go_simp; rfl) rfl ⟨?_, ?_⟩
    · rw [field_wide (by rw [sizeL_of]; exact h) (by rw [HA.out, HB.out, HC.out, Bool.true_and, HW.out]) (by rw [HA.out, HB.out, HK.out]; exact hk)]
    · exact below_set2 b4 _ _
  · go_wp2
    (try simp only [Exit.inBlock, Exit.then])
    refine bodyPost_ret (v := fieldV (a, trimL b, 0)) (by rw [results_cell_tmp rfl]; go_simp; rfl) rfl ⟨?_, ?_⟩
    · rw [field_ok (by rw [sizeL_of]; exact h) (by rw [HA.out, HB.out, HC.out, Bool.true_and, HW.out]) (by rw [HA.out, HB.out, HK.out]; exact hk), HA.out, HB.out]
    · exact below_set2 b4 _ _
theorem Parse_any (s : ByteArray) (w : World) (hs : s.size ≤ maxLen) :
    Calls Tryz.prog 90 #[.string s] w fun e w' => e = .returned (fieldV (fieldL s.data.toList)) ∧ Below w.heap.size w w' := by
  by_cases h : 2000 < s.size
  · exact Parse_long s w hs h
  · obtain ⟨a, ha⟩ : ∃ a, cut1 58 s.data.toList = a := ⟨_, rfl⟩
    obtain ⟨b, hb⟩ : ∃ b, cut2 58 s.data.toList = b := ⟨_, rfl⟩
    rcases hc : cutB 58 s.data.toList with _ | _
    · exact Parse_colon s w h a b (box ha) (box hb) (box hc)
    · rcases hw : (tokL a && textL b) with _ | _
      · exact Parse_bad s w h a b (box ha) (box hb) (box hc) (box hw)
      · exact Parse_fit s w h a b _ (box ha) (box hb) (box hc) (box hw) (box rfl)
end
section
open Go.RowKit
theorem rParse_long (s : ByteArray) (w : World) (hs : s.size ≤ maxLen) (h : 2000 < s.size) :
    Calls Tryz.prog 50 #[.string s] w fun e w' => e = .returned (fieldV (fieldL s.data.toList)) ∧ Below w.heap.size w w' := by
  unfold maxLen at hs
  go_enter Tryz.func50, Tryz.ntmps50
  go_wp2
  (try simp only [Exit.inBlock, Exit.then])
  refine bodyPost_ret (v := fieldV ([], [], 4)) (by rw [results_cell_tmp rfl]; go_simp; rfl) rfl ⟨?_, ?_⟩
  · rw [field_long (by rw [sizeL_of]; exact h)]
  · exact below_new w _
theorem rParse_colon (s : ByteArray) (w : World) (h : ¬ 2000 < s.size) (HI : Box (idxF s.data.toList 58 0 = -1)) :
    Calls Tryz.prog 50 #[.string s] w fun e w' => e = .returned (fieldV (fieldL s.data.toList)) ∧ Below w.heap.size w w' := by
  have S : Box (s.size ≤ maxLen) := box (by unfold maxLen; omega)
  go_enter Tryz.func50, Tryz.ntmps50
  go_wp2_with fail
  refine (rIndex_any s 58 58 0 _ S.out (Nat.zero_le _) rfl).mono ?_; rintro e w1 ⟨rfl, rfl⟩; rw [HI.out]
  go_wp2
  (try simp only [Exit.inBlock, Exit.then])
  refine bodyPost_ret (v := fieldV ([], [], 1)) (by rw [results_cell_tmp rfl]; go_simp; rfl) rfl ⟨?_, ?_⟩
  · rw [field_bad (by rw [sizeL_of]; exact h) (by
      have q := idxF_none (l := s.data.toList) (c := 58) (k := 0) (by rw [HI.out]; omega)
      rw [List.drop_zero] at q
      rw [(cut_no q).2.2]; rfl)]
  · exact below_new w _
/-- what the place of the colon says -/
def At (s : ByteArray) (o : Nat) (a b : List UInt8) : Prop :=
  idxF s.data.toList 58 0 = (o : Int) ∧ s.extract 0 o = bs a ∧ s.extract (o + 1) s.size = bs b ∧ cut1 58 s.data.toList = a ∧ cut2 58 s.data.toList = b ∧ cutB 58 s.data.toList = true
theorem at_of {s : ByteArray} (h : ¬ idxF s.data.toList 58 0 < 0) : ∃ o, o < s.size ∧ At s o (cut1 58 s.data.toList) (cut2 58 s.data.toList) := by
  obtain ⟨o, h1, h2, h3⟩ := idxF_some h
  rw [List.drop_zero] at h1
  simp only [Nat.zero_add] at h2 h3
  rw [sizeL_of] at h3
  have hc := cut_at h1
  refine ⟨o, h3, h2, ?_, ?_, rfl, rfl, hc.2.2.2⟩
  · rw [ext_bs, List.drop_zero, hc.2.1]
  · rw [ext_bs, List.take_of_length_le (by simp), hc.2.2.1]
theorem rParse_tok (s : ByteArray) (w : World) (h : ¬ 2000 < s.size) (o : Nat) (ho : o < s.size) (a b : List UInt8) (H : Box (At s o a b)) (HT : Box (tokL a = false)) :
    Calls Tryz.prog 50 #[.string s] w fun e w' => e = .returned (fieldV (fieldL s.data.toList)) ∧ Below w.heap.size w w' := by
  have S : Box (s.size ≤ maxLen) := box (by unfold maxLen; omega)
  have A2 : Box ((bs a).size ≤ 65536) := box (by rw [← H.out.2.1, ByteArray.size_extract]; omega)
  go_enter Tryz.func50, Tryz.ntmps50
  go_wp2_with fail
  refine (rIndex_any s 58 58 0 _ S.out (Nat.zero_le _) rfl).mono ?_; rintro e w1 ⟨rfl, rfl⟩; rw [H.out.1]
  go_wp2_with fail
  rw [H.out.2.1]
  refine (rToken_any _ _ (small_max A2).out).mono ?_; rintro e w1 ⟨rfl, rfl⟩; rw [bs_toList, HT.out]
  go_wp2
  (try simp only [Exit.inBlock, Exit.then])
  refine bodyPost_ret (v := fieldV ([], [], 1)) (by rw [results_cell_tmp rfl]; go_simp; rfl) rfl ⟨?_, ?_⟩
  · obtain ⟨_, _, _, q1, q2, q3⟩ := H.out
    rw [field_bad (by rw [sizeL_of]; exact h) (by rw [q1, q2, q3, HT.out]; rfl)]
  · exact below_new w _
theorem rParse_text (s : ByteArray) (w : World) (h : ¬ 2000 < s.size) (o : Nat) (ho : o < s.size) (a b : List UInt8) (H : Box (At s o a b)) (HT : Box (tokL a = true)) (HX : Box (textL b = false)) :
    Calls Tryz.prog 50 #[.string s] w fun e w' => e = .returned (fieldV (fieldL s.data.toList)) ∧ Below w.heap.size w w' := by
  have S : Box (s.size ≤ maxLen) := box (by unfold maxLen; omega)
  have A2 : Box ((bs a).size ≤ 65536) := box (by rw [← H.out.2.1, ByteArray.size_extract]; omega)
  have B2 : Box ((bs b).size ≤ 65536) := box (by rw [← H.out.2.2.1, ByteArray.size_extract]; omega)
  go_enter Tryz.func50, Tryz.ntmps50
  go_wp2_with fail
  refine (rIndex_any s 58 58 0 _ S.out (Nat.zero_le _) rfl).mono ?_; rintro e w1 ⟨rfl, rfl⟩; rw [H.out.1]
  go_wp2_with fail
  rw [H.out.2.1]
  refine (rToken_any _ _ (small_max A2).out).mono ?_; rintro e w1 ⟨rfl, rfl⟩; rw [bs_toList, HT.out]
  go_wp2_with fail
  rw [H.out.2.2.1]
  refine (rText_any _ _ (small_max B2).out).mono ?_; rintro e w1 ⟨rfl, rfl⟩; rw [bs_toList, HX.out]
  go_wp2
  (try simp only [Exit.inBlock, Exit.then])
  refine bodyPost_ret (v := fieldV ([], [], 1)) (by rw [results_cell_tmp rfl]; go_simp; rfl) rfl ⟨?_, ?_⟩
  · obtain ⟨_, _, _, q1, q2, q3⟩ := H.out
    rw [field_bad (by rw [sizeL_of]; exact h) (by rw [q1, q2, q3, HT.out, HX.out]; rfl)]
  · exact below_new w _
theorem rParse_fit (s : ByteArray) (w : World) (h : ¬ 2000 < s.size) (o : Nat) (ho : o < s.size) (a b : List UInt8) (H : Box (At s o a b)) (HT : Box (tokL a = true)) (HX : Box (textL b = true)) (k : Bool) (HK : Box (validL a (trimL b) = k)) :
    Calls Tryz.prog 50 #[.string s] w fun e w' => e = .returned (fieldV (fieldL s.data.toList)) ∧ Below w.heap.size w w' := by
  have S : Box (s.size ≤ maxLen) := box (by unfold maxLen; omega)
  have A2 : Box ((bs a).size ≤ 65536) := box (by rw [← H.out.2.1, ByteArray.size_extract]; omega)
  have B2 : Box ((bs b).size ≤ 65536) := box (by rw [← H.out.2.2.1, ByteArray.size_extract]; omega)
  have T2 : Box ((bs (trimL b)).size ≤ 65536) := box (by have h1 := B2.out; have h2 := trim_le b; rw [bs_size] at h1 ⊢; omega)
  have i1 : (0 : Int) ≤ (o : Int) + 1 := by omega
  have i2 : (o : Int) + 1 ≤ (s.size : Int) := by omega
  have i3 : (o : Int) ≤ (s.size : Int) := by omega
  have i4 : IntKind.i64.wrap ((o : Int) + 1) = (o : Int) + 1 := by simp [IntKind.wrap, IntKind.bits, IntKind.signed]; omega
  go_enter Tryz.func50, Tryz.ntmps50
  go_wp2_with fail
  refine (rIndex_any s 58 58 0 _ S.out (Nat.zero_le _) rfl).mono ?_; rintro e w1 ⟨rfl, rfl⟩; rw [H.out.1]
  go_wp2_with fail
  rw [H.out.2.1]
  refine (rToken_any _ _ (small_max A2).out).mono ?_; rintro e w1 ⟨rfl, rfl⟩; rw [bs_toList, HT.out]
  go_wp2_with fail
  rw [H.out.2.2.1]
  refine (rText_any _ _ (small_max B2).out).mono ?_; rintro e w1 ⟨rfl, rfl⟩; rw [bs_toList, HX.out]
  go_wp2_with fail
  go_region_held3 (fun w' => True) (first | trivial)
    (first | (go_at_call 77; rw [H.out.2.2.1]; refine (rTrim_any _ _ (small_max B2).out).mono ?_; rintro e w1 ⟨rfl, rfl⟩; rw [bs_toList]))
  all_goals
    go_wp2_with fail
    rw [H.out.2.1]
    refine (rValidField_any (bs a) (bs (trimL b)) _ A2 T2).mono ?_
    rintro e w2 ⟨rfl, hb2⟩
    rw [bs_toList, bs_toList, HK.out]
    have R := box (((Fld.new ByteArray.empty ByteArray.empty w 77).more (.cells #[.string (bs a), .string (bs (trimL b))] 77)).drew.below hb2 (by simp [World.drew] <;> omega))
    have F := box ((Fld.new (bs a) (bs (trimL b)) (w.alloc (.cells #[.string ByteArray.empty, .string ByteArray.empty] 77)) 77).drew.below hb2 (by simp [World.drew] <;> omega))
    have b2 := (((below_new w _).alloc (below_new w _).size _).drew).trans (hb2.mono (((below_new w _).alloc (below_new w _).size _).drew).size)
    clear hb2
    obtain ⟨r0, r1, r2, r3⟩ := R.out
    obtain ⟨c0, c1, _, _⟩ := F.out
    simp at c0 c1
    cases k
    · go_wp2
      (try simp only [Exit.inBlock, Exit.then])
      refine bodyPost_ret (v := fieldV ([], [], 4)) (by rw [results_cell_tmp rfl]; go_simp; rfl) rfl ⟨?_, ?_⟩
      · obtain ⟨_, _, _, q1, q2, q3⟩ := H.out
        have hw := well_cut s.data.toList
        rw [q1, q2, HT.out, HX.out] at hw
        have hv := HK.out
        unfold validL at hv
        rw [hw] at hv
        rw [field_wide (by rw [sizeL_of]; exact h) (by rw [q1, q2, q3, HT.out, HX.out]; rfl) (by rw [q1, q2]; simpa using hv)]
      · exact below_set2 b2 _ _
    · go_wp2
      (try simp only [Exit.inBlock, Exit.then])
      refine bodyPost_ret (v := fieldV (a, trimL b, 0)) (by rw [results_cell_tmp rfl]; go_simp; rfl) rfl ⟨?_, ?_⟩
      · obtain ⟨_, _, _, q1, q2, q3⟩ := H.out
        have hv := HK.out
        unfold validL at hv
        simp only [Bool.and_eq_true, decide_eq_true_eq] at hv
        rw [field_ok (by rw [sizeL_of]; exact h) (by rw [q1, q2, q3, HT.out, HX.out]; rfl) (by rw [q1, q2]; exact Nat.not_lt.mpr hv.2), q1, q2]
      · exact below_set2 b2 _ _
theorem rParseField_any (s : ByteArray) (w : World) (hs : s.size ≤ maxLen) :
    Calls Tryz.prog 50 #[.string s] w fun e w' => e = .returned (fieldV (fieldL s.data.toList)) ∧ Below w.heap.size w w' := by
  by_cases h : 2000 < s.size
  · exact rParse_long s w hs h
  · by_cases hi : idxF s.data.toList 58 0 < 0
    · have q : idxF s.data.toList 58 0 = -1 := by
        have q := idxF_none hi
        unfold idxF; rw [if_pos q]
      exact rParse_colon s w h (box q)
    · obtain ⟨o, ho, ha⟩ := at_of hi
      rcases ht : tokL (cut1 58 s.data.toList) with _ | _
      · exact rParse_tok s w h o ho _ _ (box ha) (box ht)
      · rcases hx : textL (cut2 58 s.data.toList) with _ | _
        · exact rParse_text s w h o ho _ _ (box ha) (box ht) (box hx)
        · exact rParse_fit s w h o ho _ _ (box ha) (box ht) (box hx) _ (box rfl)
end
section
open Go.RowKit
def dcV (x : List UInt8 × Int × Int) : Value := .tuple #[.string (bs x.1), .int .i64 x.2.1, .int .i64 x.2.2]
theorem dec_bad {s : List UInt8} {f : Nat} {body l : List UInt8} {e : Int} (h : chunksF (s.length + 1) [] s = chunksF (f + 1) body l) (hc : chunkL body l = .bad e) : decodeL s = ([], 0, e) := by
  unfold decodeL decS; rw [h, chunks_bad hc]; rfl
theorem dec_last {s : List UInt8} {f : Nat} {body l r : List UInt8} (h : chunksF (s.length + 1) [] s = chunksF (f + 1) body l) (hc : chunkL body l = .last r) : decodeL s = match trailF 66 0 r with | .inl e => ([], 0, e) | .inr r2 => (body, (s.length : Int) - r2.length, 0) := by
  unfold decodeL decS; rw [h, chunks_last hc]
  simp only
  cases trailF 66 0 r <;> rfl
theorem ck_next {body l : List UInt8} {e : Int} (h : nextL l = .inl e) : chunkL body l = .bad e := by unfold chunkL; rw [h]
theorem ck_size {body l t r : List UInt8} (h : nextL l = .inr (t, r)) (hs : sizeL t = none) : chunkL body l = .bad 1 := by unfold chunkL; rw [h]; simp only [hs]
theorem ck_body {body l t r : List UInt8} {n : Nat} (h : nextL l = .inr (t, r)) (hs : sizeL t = some n) (hn : 100000 < n + body.length) : chunkL body l = .bad 5 := by unfold chunkL; rw [h]; simp only [hs]; rw [if_pos hn]
theorem ck_last {body l t r : List UInt8} (h : nextL l = .inr (t, r)) (hs : sizeL t = some 0) (hn : ¬ 100000 < 0 + body.length) : chunkL body l = .last r := by unfold chunkL; rw [h]; simp only [hs]; rw [if_neg hn]; simp
theorem ck_short {body l t r : List UInt8} {n : Nat} (h : nextL l = .inr (t, r)) (hs : sizeL t = some n) (hn : ¬ 100000 < n + body.length) (h0 : n ≠ 0) (hr : r.length < n) : chunkL body l = .bad 2 := by
  unfold chunkL; rw [h]; simp only [hs]; rw [if_neg hn, if_neg h0, if_pos hr]
theorem ck_short2 {body l t r : List UInt8} {n : Nat} (h : nextL l = .inr (t, r)) (hs : sizeL t = some n) (hn : ¬ 100000 < n + body.length) (h0 : n ≠ 0) (hr : ¬ r.length < n) (he : r.drop n = [] ∨ r.drop n = [13]) : chunkL body l = .bad 2 := by
  unfold chunkL; rw [h]; simp only [hs]; rw [if_neg hn, if_neg h0, if_neg hr, if_pos he]
theorem ck_syntax {body l t r : List UInt8} {n : Nat} (h : nextL l = .inr (t, r)) (hs : sizeL t = some n) (hn : ¬ 100000 < n + body.length) (h0 : n ≠ 0) (hr : ¬ r.length < n) (he : ¬ (r.drop n = [] ∨ r.drop n = [13])) (h2 : ¬ (r.drop n).take 2 = [13, 10]) : chunkL body l = .bad 1 := by
  unfold chunkL; rw [h]; simp only [hs]; rw [if_neg hn, if_neg h0, if_neg hr, if_neg he, if_neg h2]
theorem ck_data {body l t r : List UInt8} {n : Nat} (h : nextL l = .inr (t, r)) (hs : sizeL t = some n) (hn : ¬ 100000 < n + body.length) (h0 : n ≠ 0) (hr : ¬ r.length < n) (he : ¬ (r.drop n = [] ∨ r.drop n = [13])) (h2 : (r.drop n).take 2 = [13, 10]) : chunkL body l = .data (r.take n) (r.drop (n + 2)) := by
  unfold chunkL; rw [h]; simp only [hs]; rw [if_neg hn, if_neg h0, if_neg hr, if_neg he, if_pos h2]
theorem rNext_is {s : ByteArray} {f : Nat} {o : Int ⊕ (List UInt8 × List UInt8)} {w : World} (hs : s.size ≤ 4000000) (hf : f ≤ s.size) (h : Box (nextL (s.data.toList.drop f) = o)) :
    Calls Tryz.prog 49 #[.string s, .int .i64 f] w fun e w' => e = .returned (nlV s.size o) ∧ w = w' :=
  (rNextLine_any s f w hs hf).mono fun e w' ⟨h1, h2⟩ => ⟨by rw [h1, h.out], h2⟩
theorem rNext_ok {s : ByteArray} {f nx : Nat} {t : List UInt8} {w : World} (hs : s.size ≤ 4000000) (hf : f ≤ s.size) (hn : nx ≤ s.size) (h : Box (nextL (s.data.toList.drop f) = .inr (t, s.data.toList.drop nx))) :
    Calls Tryz.prog 49 #[.string s, .int .i64 f] w fun e w' => e = .returned (.tuple #[.string (bs t), .int .i64 nx, .int .i64 0]) ∧ w = w' :=
  (rNextLine_any s f w hs hf).mono fun e w' ⟨h1, h2⟩ => ⟨by
    rw [h1, h.out]
    unfold nlV
    simp only [List.length_drop]
    have hz : s.data.toList.length = s.size := by simp
    rw [hz]
    have : (s.size : Int) - ((s.size - nx : Nat) : Int) = (nx : Int) := by omega
    rw [this], h2⟩
theorem rsize_is {t : List UInt8} {o : Option Nat} {w : World} (hs : t.length ≤ 2000) (h : Box (sizeL t = o)) :
    Calls Tryz.prog 79 #[.string (bs t)] w fun e w' => e = .returned (szV o) ∧ w = w' :=
  (rsize_any (bs t) w (by rw [bs_size]; omega)).mono fun e w' ⟨h1, h2⟩ => ⟨by rw [h1, bs_toList, h.out], h2⟩
theorem err_size {e : Int} {l : List UInt8} (h : nextL l = .inl e) : e = 1 ∨ e = 2 ∨ e = 4 := by
  unfold nextL at h
  split at h
  · cases h; exact .inr (.inr rfl)
  · split at h
    · cases h; exact .inr (.inl rfl)
    · split at h
      · cases h; exact .inl rfl
      · cases h; exact .inr (.inl rfl)
    · split at h
      · cases h; exact .inl rfl
      · split at h
        · cases h
        · cases h; exact .inl rfl
/-- the reading of a line: where the next begins -/
theorem next_at {s : ByteArray} {f : Nat} {t r : List UInt8} (hf : f ≤ s.size) (h : nextL (s.data.toList.drop f) = .inr (t, r)) : ∃ nx, f + t.length + 2 = nx ∧ nx ≤ s.size ∧ r = s.data.toList.drop nx ∧ t.length ≤ 2000 := by
  obtain ⟨h1, h2, h3⟩ := next_line h
  have hz : s.data.toList.length = s.size := by simp
  have hl := congrArg List.length h1
  rw [List.length_drop, hz] at hl
  simp at hl
  refine ⟨_, rfl, by omega, ?_, h3⟩
  have e : (s.data.toList.drop f).drop (t.length + 2) = r := by
    rw [h1, ← List.drop_drop, List.drop_left]; rfl
  rw [← e, List.drop_drop]
  congr 1 <;> omega
theorem size_bd {t : List UInt8} {n : Nat} (h : sizeL t = some n) : n < 4294967296 := by
  unfold sizeL at h
  split at h
  · rename_i hk
    cases h
    unfold sizeOk at hk
    simp only [Bool.and_eq_true, decide_eq_true_eq] at hk
    have h1 := hexN_lt (t.takeWhile hexB) (fun c hc => List.all_eq_true.mp (List.all_takeWhile (p := hexB) (l := t)) c hc)
    exact Nat.lt_of_lt_of_le h1 (Nat.le_trans (Nat.pow_le_pow_right (by omega) hk.1.1.2) (by decide))
  · cases h
/-- how far the chunks have been read; how far the lines behind them -/
def DecRel (s : ByteArray) (w : World) (v i : Value) (wr : World) : Prop := ∃ (f p : Nat) (b : ByteArray), wr = w ∧ v = .string b ∧ i = .int .i64 p ∧ p ≤ s.size ∧ b.size ≤ 100000 ∧ s.size - p ≤ f ∧ chunksF (s.data.toList.length + 1) [] s.data.toList = chunksF (f + 1) b.data.toList (s.data.toList.drop p)
def TrailRel (s : ByteArray) (nx : Nat) (w : World) (i j : Value) (wx : World) : Prop := ∃ k q : Nat, j = .int .i64 k ∧ i = .int .i64 q ∧ k ≤ 64 ∧ q ≤ s.size ∧ trailF 66 0 (s.data.toList.drop nx) = trailF (66 - k) k (s.data.toList.drop q) ∧ Below w.heap.size w wx
set_option maxRecDepth 100000 in
set_option maxHeartbeats 4000000 in
theorem rDecode_any (s : ByteArray) (w : World) (hs : s.size ≤ 4000000) :
    Calls Tryz.prog 56 #[.string s] w fun e w' => e = .returned (dcV (decodeL s.data.toList)) ∧ Below w.heap.size w w' := by
  have hz : s.data.toList.length = s.size := by simp
  go_enter Tryz.func56, Tryz.ntmps56
  go_wp2
  go_loopw [5, 6] (fun v i wr => DecRel s w v i wr) (fun _ i _ => s.size - (intOf i).toNat)
  case atStart => exact ⟨s.size, 0, ⟨#[]⟩, rfl, rfl, rfl, Nat.zero_le _, by decide, by omega, by rw [hz, List.drop_zero]⟩
  case round =>
    obtain ⟨f, p, b, rfl, rfl, rfl, hp, hb, hf, hC⟩ := hrel
    have HC := box hC
    clear hC
    have hbl : b.data.toList.length = b.size := by simp
    rcases hn : nextL (s.data.toList.drop p) with e | ⟨t, r⟩
    · have HN := box hn
      have HE : Box (decodeL s.data.toList = ([], 0, e)) := box (dec_bad HC.out (ck_next hn))
      have he := err_size hn
      clear hn
      rcases he with rfl | rfl | rfl
      all_goals
        go_wp2_with fail
        refine (rNext_is hs hp HN).mono ?_; rintro e w1 ⟨rfl, rfl⟩; unfold nlV
        go_wp2
        go_ret3
        exact ⟨by rw [HE.out]; rfl, Below.refl _ _⟩
    · obtain ⟨nx, hnx, hns, rfl, htl⟩ := next_at hp hn
      have HN := box hn
      rcases hsz : sizeL t with _ | n
      · have HS := box hsz
        have HE : Box (decodeL s.data.toList = ([], 0, 1)) := box (dec_bad HC.out (ck_size hn hsz))
        clear hn hsz
        go_wp2_with fail
        refine (rNext_ok hs hp hns HN).mono ?_; rintro e w1 ⟨rfl, rfl⟩
        go_wp2_with fail
        refine (rsize_is htl HS).mono ?_; rintro e w1 ⟨rfl, rfl⟩; unfold szV
        go_wp2
        go_ret3
        exact ⟨by rw [HE.out]; rfl, Below.refl _ _⟩
      · have HS := box hsz
        have hnb := size_bd hsz
        have hrl : (s.data.toList.drop nx).length = s.size - nx := by rw [List.length_drop, hz]
        by_cases h5 : 100000 < n + b.data.toList.length
        · have HE : Box (decodeL s.data.toList = ([], 0, 5)) := box (dec_bad HC.out (ck_body hn hsz h5))
          have h5i : (100000 : Int) - (b.size : Int) < (n : Int) := by omega
          clear hn hsz
          go_wp2_with fail
          refine (rNext_ok hs hp hns HN).mono ?_; rintro e w1 ⟨rfl, rfl⟩
          go_wp2_with fail
          refine (rsize_is htl HS).mono ?_; rintro e w1 ⟨rfl, rfl⟩; unfold szV
          go_wp2
          go_ret3
          exact ⟨by rw [HE.out]; rfl, Below.refl _ _⟩
        · have h5i : ¬ (100000 : Int) - (b.size : Int) < (n : Int) := by omega
          by_cases h0 : n = 0
          · subst h0
            have HL := box (dec_last HC.out (ck_last hn hsz h5))
            clear hn hsz
            go_wp2_with fail
            refine (rNext_ok hs hp hns HN).mono ?_; rintro e w1 ⟨rfl, rfl⟩
            go_wp2_with fail
            refine (rsize_is htl HS).mono ?_; rintro e w1 ⟨rfl, rfl⟩; unfold szV
            go_wp2
            go_loopw [6, 13] (fun i j wx => TrailRel s nx wr i j wx) (fun _ j _ => 65 - (intOf j).toNat)
            case atStart => exact ⟨0, nx, rfl, rfl, Nat.zero_le _, hns, rfl, Below.refl _ _⟩
            case round =>
              obtain ⟨k, q, rfl, rfl, hk, hq, hT, hbel⟩ := hrel
              have BL := box hbel
              obtain ⟨g, hg⟩ : ∃ g, 66 - k = g + 1 := ⟨65 - k, by omega⟩
              rw [hg] at hT
              have HT := box hT
              clear hbel hT
              rcases hn2 : nextL (s.data.toList.drop q) with e2 | ⟨t2, r2⟩
              · have HN2 := box hn2
                have HE : Box (decodeL s.data.toList = ([], 0, e2)) := box (by rw [HL.out, HT.out, trail_bad hn2])
                have he := err_size hn2
                clear hn2
                rcases he with rfl | rfl | rfl
                all_goals
                  go_wp2_with fail
                  refine (rNext_is hs hq HN2).mono ?_; rintro e w1 ⟨rfl, rfl⟩; unfold nlV
                  go_wp2
                  go_ret3
                  exact ⟨by rw [HE.out]; rfl, BL.out⟩
              · obtain ⟨q2, hq2, hqs, rfl, htl2⟩ := next_at hq hn2
                have HN2 := box hn2
                by_cases ht2 : t2 = []
                · subst ht2
                  have HE : Box (decodeL s.data.toList = (b.data.toList, (q2 : Int), 0)) := box (by
                    rw [HL.out, HT.out, trail_done hn2]
                    simp only [List.length_drop, hz]
                    have : (s.size : Int) - ((s.size - q2 : Nat) : Int) = (q2 : Int) := by omega
                    rw [this])
                  clear hn2
                  go_wp2_with fail
                  refine (rNext_ok hs hq hqs HN2).mono ?_; rintro e w1 ⟨rfl, rfl⟩
                  rw [show bs ([] : List UInt8) = (⟨#[]⟩ : ByteArray) from rfl]
                  go_wp2
                  go_ret3
                  exact ⟨by rw [HE.out]; rfl, BL.out⟩
                · have hte : (bs t2).toList.isEmpty = false := by
                    rw [toList_data, bs_toList]
                    cases t2 with
                    | nil => exact absurd rfl ht2
                    | cons _ _ => rfl
                  by_cases hk64 : k = 64
                  · subst hk64
                    have HE : Box (decodeL s.data.toList = ([], 0, 4)) := box (by rw [HL.out, HT.out, trail_many hn2 ht2])
                    clear hn2 ht2
                    go_wp2_with fail
                    refine (rNext_ok hs hq hqs HN2).mono ?_; rintro e w1 ⟨rfl, rfl⟩
                    go_wp2
                    go_ret3
                    exact ⟨by rw [HE.out]; rfl, BL.out⟩
                  · have hki : ((k : Int) == 64) = false := by rw [beq_eq_false_iff_ne]; omega
                    have HZ2 : Box ((bs t2).size ≤ maxLen) := box (by rw [bs_size]; unfold maxLen; omega)
                    obtain ⟨a1, a2, e2, hfl⟩ : ∃ a1 a2 e2, fieldL t2 = (a1, a2, e2) := ⟨_, _, _, rfl⟩
                    have HFV : Box (fieldV (fieldL (bs t2).data.toList) = .tuple #[.agg #[.string (bs a1), .string (bs a2)], .int .i64 e2]) := box (by rw [bs_toList, hfl]; rfl)
                    rcases he2 : ((e2 : Int) != 0) with _ | _
                    · have he20 : e2 = 0 := by simpa using he2
                      have HNX := box (HT.out.trans (trail_next hn2 ht2 hk64 (by rw [hfl]; exact he20)))
                      clear hn2 ht2 hfl he20
                      go_wp2_with fail
                      refine (rNext_ok hs hq hqs HN2).mono ?_; rintro e w1 ⟨rfl, rfl⟩
                      go_wp2_with fail
                      refine (rParseField_any (bs t2) _ HZ2.out).mono ?_; rintro e w2 ⟨rfl, hb2⟩; rw [HFV.out]
                      have B2 := box (BL.out.trans (hb2.mono BL.out.size))
                      clear hb2
                      go_wp2
                      go_roundw
                      case rel => exact ⟨k + 1, q2, by go_num, rfl, by omega, hqs, by rw [show 66 - (k + 1) = g from by omega]; exact HNX.out, B2.out.alloc B2.out.size _⟩
                      case measure => simp [intOf]; omega
                    · have he20 : e2 ≠ 0 := by simpa using he2
                      have HE : Box (decodeL s.data.toList = ([], 0, e2)) := box (by rw [HL.out, HT.out, trail_field hn2 ht2 hk64 (by rw [hfl]; exact he20), hfl])
                      clear hn2 ht2 hfl he20
                      go_wp2_with fail
                      refine (rNext_ok hs hq hqs HN2).mono ?_; rintro e w1 ⟨rfl, rfl⟩
                      go_wp2_with fail
                      refine (rParseField_any (bs t2) _ HZ2.out).mono ?_; rintro e w2 ⟨rfl, hb2⟩; rw [HFV.out]
                      have B2 := box (BL.out.trans (hb2.mono BL.out.size))
                      clear hb2
                      go_wp2
                      go_ret3
                      exact ⟨by rw [HE.out]; rfl, B2.out.alloc B2.out.size _⟩
          · have h0i : ((n : Int) == 0) = false := by rw [beq_eq_false_iff_ne]; omega
            by_cases hr : (s.data.toList.drop nx).length < n
            · have HE : Box (decodeL s.data.toList = ([], 0, 2)) := box (dec_bad HC.out (ck_short hn hsz h5 h0 hr))
              have hri : (s.size : Int) - (nx : Int) < (n : Int) := by omega
              clear hn hsz
              go_wp2_with fail
              refine (rNext_ok hs hp hns HN).mono ?_; rintro e w1 ⟨rfl, rfl⟩
              go_wp2_with fail
              refine (rsize_is htl HS).mono ?_; rintro e w1 ⟨rfl, rfl⟩; unfold szV
              go_wp2
              go_ret3
              exact ⟨by rw [HE.out]; rfl, Below.refl _ _⟩
            · have hri : ¬ (s.size : Int) - (nx : Int) < (n : Int) := by omega
              have hXl : (s.extract (nx + n) s.size).data.toList = (s.data.toList.drop nx).drop n := by
                rw [ext_bs, List.take_of_length_le (by simp), List.drop_drop]; rfl
              have hXz : (s.extract (nx + n) s.size).data.toList.length = s.size - (nx + n) := by
                rw [hXl, List.length_drop, hrl]; omega
              have hl1 : (nx : Int) ≤ (nx : Int) + (n : Int) := by omega
              have hl2 : (nx : Int) + (n : Int) ≤ (s.size : Int) := by omega
              have hl0 : (0 : Int) ≤ (nx : Int) + (n : Int) := by omega
              rcases h1 : (s.extract (nx + n) s.size).toList.isEmpty with _ | _
              · have hEne : (s.extract (nx + n) s.size).data.toList ≠ [] := by rw [toList_data] at h1; intro e; rw [e] at h1; cases h1
                have h1b : ¬ (s.extract (nx + n) s.size).toList = [] := by rw [toList_data]; exact hEne
                rcases h2 : ((s.extract (nx + n) s.size).toList == [13]) with _ | _
                · have hE13 : (s.extract (nx + n) s.size).data.toList ≠ [13] := by rw [toList_data] at h2; simpa using h2
                  by_cases h3 : s.size - (nx + n) < 2
                  · have h3i : ((s.size - (nx + n) : Nat) : Int) < 2 := by omega
                    have HE : Box (decodeL s.data.toList = ([], 0, 1)) := box (dec_bad HC.out (ck_syntax hn hsz h5 h0 hr (by rw [← hXl]; exact fun e => e.elim hEne hE13) (by
                      rw [← hXl]
                      intro e
                      have := congrArg List.length e
                      rw [List.length_take, hXz] at this
                      simp at this; omega)))
                    clear hn hsz hXl hXz hEne hE13
                    go_wp2_with fail
                    refine (rNext_ok hs hp hns HN).mono ?_; rintro e w1 ⟨rfl, rfl⟩
                    go_wp2_with fail
                    refine (rsize_is htl HS).mono ?_; rintro e w1 ⟨rfl, rfl⟩; unfold szV
                    go_wp2
                    go_ret3
                    exact ⟨by rw [HE.out]; rfl, Below.refl _ _⟩
                  · have h3i : ¬ ((s.size - (nx + n) : Nat) : Int) < 2 := by omega
                    have h3j : (2 : Int) ≤ ((s.size - (nx + n) : Nat) : Int) := by omega
                    have hx2 : ((s.extract (nx + n) s.size).extract 0 2).data.toList = ((s.data.toList.drop nx).drop n).take 2 := by rw [ext_bs, hXl, List.drop_zero]; rfl
                    rcases h4 : (((s.extract (nx + n) s.size).extract 0 2).toList == [13, 10]) with _ | _
                    · have h42 : ¬ ((s.data.toList.drop nx).drop n).take 2 = [13, 10] := by rw [toList_data, hx2] at h4; simpa using h4
                      have HE : Box (decodeL s.data.toList = ([], 0, 1)) := box (dec_bad HC.out (ck_syntax hn hsz h5 h0 hr (by rw [← hXl]; exact fun e => e.elim hEne hE13) h42))
                      clear hn hsz hXl hXz hEne hE13 h42 hx2
                      go_wp2_with fail
                      refine (rNext_ok hs hp hns HN).mono ?_; rintro e w1 ⟨rfl, rfl⟩
                      go_wp2_with fail
                      refine (rsize_is htl HS).mono ?_; rintro e w1 ⟨rfl, rfl⟩; unfold szV
                      go_wp2
                      go_ret3
                      exact ⟨by rw [HE.out]; rfl, Below.refl _ _⟩
                    · have h42 : ((s.data.toList.drop nx).drop n).take 2 = [13, 10] := by rw [toList_data, hx2] at h4; simpa using h4
                      obtain ⟨f', rfl⟩ : ∃ f', f = f' + 1 := ⟨f - 1, by omega⟩
                      have HB : Box ((b ++ s.extract nx (nx + n)).data.toList = b.data.toList ++ (s.data.toList.drop nx).take n) := box (by
                        have e1 : (s.extract nx (nx + n)).data.toList = (s.data.toList.drop nx).take n := by rw [ext_bs, bs_toList, List.drop_take, Nat.add_sub_cancel_left]
                        rw [← e1]; simp [ByteArray.data_append])
                      have HDR : Box (s.data.toList.drop (nx + n + 2) = (s.data.toList.drop nx).drop (n + 2)) := box (by rw [List.drop_drop, Nat.add_assoc])
                      have hn2 : nx + n + 2 ≤ s.size := by omega
                      have HD := box (HC.out.trans (chunks_data (ck_data hn hsz h5 h0 hr (by rw [← hXl]; exact fun e => e.elim hEne hE13) h42)))
                      have hlb : b.size ≤ 100000 := hb
                      clear hn hsz hXl hXz hEne hE13 h42 hx2
                      go_wp2_with fail
                      refine (rNext_ok hs hp hns HN).mono ?_; rintro e w1 ⟨rfl, rfl⟩
                      go_wp2_with fail
                      refine (rsize_is htl HS).mono ?_; rintro e w1 ⟨rfl, rfl⟩; unfold szV
                      go_wp2
                      go_roundw
                      case rel => exact ⟨f', nx + n + 2, _, rfl, rfl, by go_num, by omega, by rw [ByteArray.size_append, ByteArray.size_extract]; omega, by omega, by rw [HB.out, HDR.out]; exact HD.out⟩
                      case measure => simp [intOf]; omega
                · have hE13 : (s.extract (nx + n) s.size).data.toList = [13] := by rw [toList_data] at h2; simpa using h2
                  have HE : Box (decodeL s.data.toList = ([], 0, 2)) := box (dec_bad HC.out (ck_short2 hn hsz h5 h0 hr (.inr (by rw [← hXl]; exact hE13))))
                  clear hn hsz hXl hXz hEne hE13
                  go_wp2_with fail
                  refine (rNext_ok hs hp hns HN).mono ?_; rintro e w1 ⟨rfl, rfl⟩
                  go_wp2_with fail
                  refine (rsize_is htl HS).mono ?_; rintro e w1 ⟨rfl, rfl⟩; unfold szV
                  go_wp2
                  go_ret3
                  exact ⟨by rw [HE.out]; rfl, Below.refl _ _⟩
              · have hEe : (s.extract (nx + n) s.size).data.toList = [] := by rw [toList_data] at h1; exact List.isEmpty_iff.mp h1
                have h1b : (s.extract (nx + n) s.size).toList = [] := by rw [toList_data]; exact hEe
                have HE : Box (decodeL s.data.toList = ([], 0, 2)) := box (dec_bad HC.out (ck_short2 hn hsz h5 h0 hr (.inl (by rw [← hXl]; exact hEe))))
                clear hn hsz hXl hXz hEe
                go_wp2_with fail
                refine (rNext_ok hs hp hns HN).mono ?_; rintro e w1 ⟨rfl, rfl⟩
                go_wp2_with fail
                refine (rsize_is htl HS).mono ?_; rintro e w1 ⟨rfl, rfl⟩; unfold szV
                go_wp2
                go_ret3
                exact ⟨by rw [HE.out]; rfl, Below.refl _ _⟩
end
section
theorem decN_high (n b0 b1 b2 b3 : Nat) (hn : 1 ≤ n) (h0 : 128 ≤ b0) (h1 : b0 < 256) :
    128 ≤ (Lib.decodeN n b0 b1 b2 b3).1 ∧ ((Lib.decodeN n b0 b1 b2 b3).1 < 55296 ∨ (57344 ≤ (Lib.decodeN n b0 b1 b2 b3).1 ∧ (Lib.decodeN n b0 b1 b2 b3).1 ≤ 1114111)) ∧
    1 ≤ (Lib.decodeN n b0 b1 b2 b3).2 ∧ (Lib.decodeN n b0 b1 b2 b3).2 ≤ n ∧ (Lib.decodeN n b0 b1 b2 b3).2 ≤ 4 ∧ (2 ≤ (Lib.decodeN n b0 b1 b2 b3).2 → 128 ≤ b1) ∧ (3 ≤ (Lib.decodeN n b0 b1 b2 b3).2 → 128 ≤ b2) ∧ (4 ≤ (Lib.decodeN n b0 b1 b2 b3).2 → 128 ≤ b3) := by
  unfold Lib.decodeN
  repeat' split
  all_goals (simp only; omega)
theorem decode_max (s : ByteArray) (i : Nat) : (Utf8.decode s i).1 ≤ 1114111 := by
  rw [Lib.decode_at]
  have h := UInt8.toNat_lt (s.get! i)
  generalize (s.get! i).toNat = b0 at *
  unfold Lib.decodeN
  repeat' split
  all_goals (simp only; omega)
theorem get_bang (s : ByteArray) (j : Nat) (h : j < s.size) : s.get! j = s[j] := by
  simp [ByteArray.get!, getElem!_pos, h]; rfl
theorem valid_of {r : Nat} (h : r < 55296 ∨ (57344 ≤ r ∧ r ≤ 1114111)) : Utf8.valid (r : Int) = true := by
  simp only [Utf8.valid]
  rcases h with h | h <;> simp <;> omega
end
section
open Go.RowKit
theorem set_info : (Tryz.prog.info? 122).map (fun i => (i.zero, i.size)) = some (some (.agg (Array.replicate 256 (.bool false))), 256) := by kernel_rfl
theorem contains_any (b : Nat) (x : UInt8) (v : Bool) (w : World) (hc : w.cell? ⟨b, x.toNat, none⟩ = some (.bool v)) :
    Calls Tryz.prog 124 #[.pointer (some ⟨b, 0, none⟩), .int .u8 x.toNat] w fun e w' => e = .returned (.bool v) ∧ w = w' := by
  have hx256 : (x.toNat : Int) < 256 := by have := UInt8.toNat_lt x; omega
  go_enter Tryz.func124, Tryz.ntmps124
  go_wp2
  go_ret
  exact ⟨rfl, rfl⟩
end
section
open Go.RowKit
theorem sIndexByte_any (s : ByteArray) (c : Int) (w : World) :
    Calls Tryz.prog 133 #[.string s, .int .u8 c] w fun e w' => e = .returned (.int .i64 (Lib.indexByte s.data.toList c.toNat.toUInt8)) ∧ w = w' := by
  go_enter Tryz.func133, Tryz.ntmps133
  go_wp2_with fail
  refine (IndexByte_any s c _).mono ?_; rintro e w1 ⟨rfl, rfl⟩
  go_wp2
  go_ret
  exact ⟨rfl, rfl⟩
set_option maxRecDepth 1000000 in
set_option maxHeartbeats 2000000 in
theorem sIndexRune_ascii (s : ByteArray) (c : UInt8) (w : World) (hc : c.toNat < 128) :
    Calls Tryz.prog 121 #[.string s, .int .i32 c.toNat] w fun e w' => e = .returned (.int .i64 (Lib.indexByte s.data.toList c)) ∧ w = w' := by
  have hci : (c.toNat : Int) < 128 := by omega
  have hback : ((c.toNat : Int)).toNat.toUInt8 = c := by simp
  have HB := box hback
  clear hback
  go_enter Tryz.func121, Tryz.ntmps121
  go_wp2_with fail
  refine (sIndexByte_any s _ _).mono ?_; rintro e w1 ⟨rfl, rfl⟩; rw [HB.out]
  go_wp2
  (try rw [Exit.noGoto_ret])
  go_ret
  exact ⟨rfl, rfl⟩
theorem sShould_any (n : Int) (w : World) :
    Calls Tryz.prog 122 #[.int .i64 n] w fun e w' => e = .returned (.bool (decide (8 < n))) ∧ w = w' := by
  go_enter Tryz.func122, Tryz.ntmps122
  go_wp2
  go_ret
  exact ⟨rfl, rfl⟩
theorem below_iter (w : World) (s : ByteArray) (p : Nat) : Below w.heap.size w (w.iter s p) := (Below.refl _ _).alloc (Nat.le_refl _) _
theorem idx_empty (c : Int) (w : World) :
    Calls Tryz.prog 133 #[.string ByteArray.empty, .int .u8 c] w fun e w' => e = .returned (.int .i64 (-1)) ∧ w = w' :=
  (sIndexByte_any ByteArray.empty c w).mono fun e w' ⟨h1, h2⟩ => ⟨by rw [h1]; rfl, h2⟩
theorem valid_any (r : Int) (w : World) (hv : Box (Utf8.valid r = true)) (h0 : 128 ≤ r) (h1 : r ≤ 1114111) :
    Calls Tryz.prog 134 #[.int .i32 r] w fun e w' => e = .returned (.bool true) ∧ w = w' := by
  have hr : r < 55296 ∨ 57343 < r := by
    have := hv.out
    simp only [Utf8.valid] at this
    simp at this; omega
  rcases hr with hr | hr
  · go_enter Tryz.func134, Tryz.ntmps134
    go_wp2
    go_ret
    exact ⟨rfl, rfl⟩
  · go_enter Tryz.func134, Tryz.ntmps134
    go_wp2
    go_ret
    exact ⟨rfl, rfl⟩
end
end Go.Proofs.YtjabcfabenobiaaGreat.Asc
