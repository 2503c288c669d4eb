/- The contract of the reference's ParseField. -/
import Derived.Test.YthfhoacflkbhhaaFieParse
set_option linter.unusedVariables false
set_option linter.unusedSimpArgs false
namespace Go.Proofs.Ythfhoacflkbhhaa.Asc
open Go.RowKit

theorem rParse_long (s : ByteArray) (w : World) (hs : s.size ≤ maxLen) (h : 2000 < s.size) :
    Calls Try.prog 24 #[.string s] w fun e w' => e = .returned (fieldV (fieldL s.data.toList)) ∧ Below w.heap.size w w' := by
  unfold maxLen at hs
  go_enter Try.func24, Try.ntmps24
  go_wp2
  (try simp only [Exit.inBlock, Exit.then])
  refine bodyPost_ret (v := fieldV ([], [], 4)) (by rw [results_cell_tmp rfl]; go_simp; rfl) rfl ⟨?_, ?_⟩
  · rw [field_long (by rw [size_list]; exact h)]
  · exact below_new w _
theorem rParse_colon (s : ByteArray) (w : World) (h : ¬ 2000 < s.size) (HI : Box (idxF s.data.toList 58 0 = -1)) :
    Calls Try.prog 24 #[.string s] w fun e w' => e = .returned (fieldV (fieldL s.data.toList)) ∧ Below w.heap.size w w' := by
  have S : Box (s.size ≤ maxLen) := box (by unfold maxLen; omega)
  go_enter Try.func24, Try.ntmps24
  go_wp2_with fail
  refine (rIndex_any s 58 58 0 _ S.out (Nat.zero_le _) rfl).mono ?_; rintro e w1 ⟨rfl, rfl⟩; rw [HI.out]
  go_wp2
  (try simp only [Exit.inBlock, Exit.then])
  refine bodyPost_ret (v := fieldV ([], [], 1)) (by rw [results_cell_tmp rfl]; go_simp; rfl) rfl ⟨?_, ?_⟩
  · rw [field_bad (by rw [size_list]; exact h) (by
      have q := idxF_none (l := s.data.toList) (c := 58) (k := 0) (by rw [HI.out]; omega)
      rw [List.drop_zero] at q
      rw [(cut_no q).2.2]; rfl)]
  · exact below_new w _
/-- what the place of the colon says -/
def At (s : ByteArray) (o : Nat) (a b : List UInt8) : Prop :=
  idxF s.data.toList 58 0 = (o : Int) ∧ s.extract 0 o = bs a ∧ s.extract (o + 1) s.size = bs b ∧ cut1 58 s.data.toList = a ∧ cut2 58 s.data.toList = b ∧ cutB 58 s.data.toList = true
theorem at_of {s : ByteArray} (h : ¬ idxF s.data.toList 58 0 < 0) : ∃ o, o < s.size ∧ At s o (cut1 58 s.data.toList) (cut2 58 s.data.toList) := by
  obtain ⟨o, h1, h2, h3⟩ := idxF_some h
  rw [List.drop_zero] at h1
  simp only [Nat.zero_add] at h2 h3
  rw [size_list] at h3
  have hc := cut_at h1
  refine ⟨o, h3, h2, ?_, ?_, rfl, rfl, hc.2.2.2⟩
  · rw [ext_bs, List.drop_zero, hc.2.1]
  · rw [ext_bs, List.take_of_length_le (by simp), hc.2.2.1]
theorem rParse_tok (s : ByteArray) (w : World) (h : ¬ 2000 < s.size) (o : Nat) (ho : o < s.size) (a b : List UInt8) (H : Box (At s o a b)) (HT : Box (tokL a = false)) :
    Calls Try.prog 24 #[.string s] w fun e w' => e = .returned (fieldV (fieldL s.data.toList)) ∧ Below w.heap.size w w' := by
  have S : Box (s.size ≤ maxLen) := box (by unfold maxLen; omega)
  have A2 : Box ((bs a).size ≤ 65536) := box (by rw [← H.out.2.1, ByteArray.size_extract]; omega)
  go_enter Try.func24, Try.ntmps24
  go_wp2_with fail
  refine (rIndex_any s 58 58 0 _ S.out (Nat.zero_le _) rfl).mono ?_; rintro e w1 ⟨rfl, rfl⟩; rw [H.out.1]
  go_wp2_with fail
  rw [H.out.2.1]
  refine (rToken_any _ _ (small_max A2).out).mono ?_; rintro e w1 ⟨rfl, rfl⟩; rw [bs_toList, HT.out]
  go_wp2
  (try simp only [Exit.inBlock, Exit.then])
  refine bodyPost_ret (v := fieldV ([], [], 1)) (by rw [results_cell_tmp rfl]; go_simp; rfl) rfl ⟨?_, ?_⟩
  · obtain ⟨_, _, _, q1, q2, q3⟩ := H.out
    rw [field_bad (by rw [size_list]; exact h) (by rw [q1, q2, q3, HT.out]; rfl)]
  · exact below_new w _
theorem rParse_text (s : ByteArray) (w : World) (h : ¬ 2000 < s.size) (o : Nat) (ho : o < s.size) (a b : List UInt8) (H : Box (At s o a b)) (HT : Box (tokL a = true)) (HX : Box (textL b = false)) :
    Calls Try.prog 24 #[.string s] w fun e w' => e = .returned (fieldV (fieldL s.data.toList)) ∧ Below w.heap.size w w' := by
  have S : Box (s.size ≤ maxLen) := box (by unfold maxLen; omega)
  have A2 : Box ((bs a).size ≤ 65536) := box (by rw [← H.out.2.1, ByteArray.size_extract]; omega)
  have B2 : Box ((bs b).size ≤ 65536) := box (by rw [← H.out.2.2.1, ByteArray.size_extract]; omega)
  go_enter Try.func24, Try.ntmps24
  go_wp2_with fail
  refine (rIndex_any s 58 58 0 _ S.out (Nat.zero_le _) rfl).mono ?_; rintro e w1 ⟨rfl, rfl⟩; rw [H.out.1]
  go_wp2_with fail
  rw [H.out.2.1]
  refine (rToken_any _ _ (small_max A2).out).mono ?_; rintro e w1 ⟨rfl, rfl⟩; rw [bs_toList, HT.out]
  go_wp2_with fail
  rw [H.out.2.2.1]
  refine (rText_any _ _ (small_max B2).out).mono ?_; rintro e w1 ⟨rfl, rfl⟩; rw [bs_toList, HX.out]
  go_wp2
  (try simp only [Exit.inBlock, Exit.then])
  refine bodyPost_ret (v := fieldV ([], [], 1)) (by rw [results_cell_tmp rfl]; go_simp; rfl) rfl ⟨?_, ?_⟩
  · obtain ⟨_, _, _, q1, q2, q3⟩ := H.out
    rw [field_bad (by rw [size_list]; exact h) (by rw [q1, q2, q3, HT.out, HX.out]; rfl)]
  · exact below_new w _
theorem rParse_fit (s : ByteArray) (w : World) (h : ¬ 2000 < s.size) (o : Nat) (ho : o < s.size) (a b : List UInt8) (H : Box (At s o a b)) (HT : Box (tokL a = true)) (HX : Box (textL b = true)) (k : Bool) (HK : Box (validL a (trimL b) = k)) :
    Calls Try.prog 24 #[.string s] w fun e w' => e = .returned (fieldV (fieldL s.data.toList)) ∧ Below w.heap.size w w' := by
  have S : Box (s.size ≤ maxLen) := box (by unfold maxLen; omega)
  have A2 : Box ((bs a).size ≤ 65536) := box (by rw [← H.out.2.1, ByteArray.size_extract]; omega)
  have B2 : Box ((bs b).size ≤ 65536) := box (by rw [← H.out.2.2.1, ByteArray.size_extract]; omega)
  have T2 : Box ((bs (trimL b)).size ≤ 65536) := box (by have h1 := B2.out; have h2 := trim_le b; rw [bs_size] at h1 ⊢; omega)
  have i1 : (0 : Int) ≤ (o : Int) + 1 := by omega
  have i2 : (o : Int) + 1 ≤ (s.size : Int) := by omega
  have i3 : (o : Int) ≤ (s.size : Int) := by omega
  have i4 : IntKind.i64.wrap ((o : Int) + 1) = (o : Int) + 1 := by simp [IntKind.wrap, IntKind.bits, IntKind.signed]; omega
  go_enter Try.func24, Try.ntmps24
  go_wp2_with fail
  refine (rIndex_any s 58 58 0 _ S.out (Nat.zero_le _) rfl).mono ?_; rintro e w1 ⟨rfl, rfl⟩; rw [H.out.1]
  go_wp2_with fail
  rw [H.out.2.1]
  refine (rToken_any _ _ (small_max A2).out).mono ?_; rintro e w1 ⟨rfl, rfl⟩; rw [bs_toList, HT.out]
  go_wp2_with fail
  rw [H.out.2.2.1]
  refine (rText_any _ _ (small_max B2).out).mono ?_; rintro e w1 ⟨rfl, rfl⟩; rw [bs_toList, HX.out]
  go_wp2_with fail
  go_region_held3 (fun w' => True) (first | trivial)
    (first | (go_at_call 29; rw [H.out.2.2.1]; refine (rTrim_any _ _ (small_max B2).out).mono ?_; rintro e w1 ⟨rfl, rfl⟩; rw [bs_toList]))
  all_goals
    go_wp2_with fail
    rw [H.out.2.1]
    refine (rValidField_any (bs a) (bs (trimL b)) _ A2 T2).mono ?_
    rintro e w2 ⟨rfl, hb2⟩
    rw [bs_toList, bs_toList, HK.out]
    have R := box (((Fld.new ByteArray.empty ByteArray.empty w 33).more (.cells #[.string (bs a), .string (bs (trimL b))] 33)).drew.below hb2 (by simp [World.drew] <;> omega))
    have F := box ((Fld.new (bs a) (bs (trimL b)) (w.alloc (.cells #[.string ByteArray.empty, .string ByteArray.empty] 33)) 33).drew.below hb2 (by simp [World.drew] <;> omega))
    have b2 := (((below_new w _).alloc (below_new w _).size _).drew).trans (hb2.mono (((below_new w _).alloc (below_new w _).size _).drew).size)
    clear hb2
    obtain ⟨r0, r1, r2, r3⟩ := R.out
    obtain ⟨c0, c1, _, _⟩ := F.out
    simp at c0 c1
    cases k
    · go_wp2
      (try simp only [Exit.inBlock, Exit.then])
      refine bodyPost_ret (v := fieldV ([], [], 4)) (by rw [results_cell_tmp rfl]; go_simp; rfl) rfl ⟨?_, ?_⟩
      · obtain ⟨_, _, _, q1, q2, q3⟩ := H.out
        have hw := well_cut s.data.toList
        rw [q1, q2, HT.out, HX.out] at hw
        have hv := HK.out
        unfold validL at hv
        rw [hw] at hv
        rw [field_wide (by rw [size_list]; exact h) (by rw [q1, q2, q3, HT.out, HX.out]; rfl) (by rw [q1, q2]; simpa using hv)]
      · exact below_set2 b2 _ _
    · go_wp2
      (try simp only [Exit.inBlock, Exit.then])
      refine bodyPost_ret (v := fieldV (a, trimL b, 0)) (by rw [results_cell_tmp rfl]; go_simp; rfl) rfl ⟨?_, ?_⟩
      · obtain ⟨_, _, _, q1, q2, q3⟩ := H.out
        have hv := HK.out
        unfold validL at hv
        simp only [Bool.and_eq_true, decide_eq_true_eq] at hv
        rw [field_ok (by rw [size_list]; exact h) (by rw [q1, q2, q3, HT.out, HX.out]; rfl) (by rw [q1, q2]; exact Nat.not_lt.mpr hv.2), q1, q2]
      · exact below_set2 b2 _ _
theorem rParseField_any (s : ByteArray) (w : World) (hs : s.size ≤ maxLen) :
    Calls Try.prog 24 #[.string s] w fun e w' => e = .returned (fieldV (fieldL s.data.toList)) ∧ Below w.heap.size w w' := by
  by_cases h : 2000 < s.size
  · exact rParse_long s w hs h
  · by_cases hi : idxF s.data.toList 58 0 < 0
    · have q : idxF s.data.toList 58 0 = -1 := by
        have q := idxF_none hi
        unfold idxF; rw [if_pos q]
      exact rParse_colon s w h (box q)
    · obtain ⟨o, ho, ha⟩ := at_of hi
      rcases ht : tokL (cut1 58 s.data.toList) with _ | _
      · exact rParse_tok s w h o ho _ _ (box ha) (box ht)
      · rcases hx : textL (cut2 58 s.data.toList) with _ | _
        · exact rParse_text s w h o ho _ _ (box ha) (box ht) (box hx)
        · exact rParse_fit s w h o ho _ _ (box ha) (box ht) (box hx) _ (box rfl)

end Go.Proofs.Ythfhoacflkbhhaa.Asc
