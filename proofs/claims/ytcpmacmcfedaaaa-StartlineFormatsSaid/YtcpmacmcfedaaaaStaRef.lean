/- The contracts of the reference's two parsers of layer 2. -/
import Derived.Test.YtcpmacmcfedaaaaStaParse
set_option linter.unusedVariables false
set_option linter.unusedSimpArgs false
namespace Go.Proofs.Ytcpmacmcfedaaaa.Asc
open Go.RowKit


theorem rIndex_0 (s : ByteArray) (w : World) (hs : s.size ≤ maxLen) :
    Calls Try.prog 21 #[.string s, .int .u8 32, .int .i64 0] w fun e w' => e = .returned (.int .i64 (idxF s.data.toList 32 0)) ∧ w = w' :=
  rIndex_any s 32 32 0 w hs (Nat.zero_le _) rfl
theorem rIndex_s (s : ByteArray) (f : Nat) (w : World) (hs : s.size ≤ maxLen) (hf : f < s.size) :
    Calls Try.prog 21 #[.string s, .int .u8 32, .int .i64 ((f : Int) + 1)] w fun e w' => e = .returned (.int .i64 (idxF s.data.toList 32 (f + 1))) ∧ w = w' := by
  have h := rIndex_any s 32 32 (f + 1) w hs hf rfl
  rwa [show (((f + 1 : Nat)) : Int) = (f : Int) + 1 from by push_cast; rfl] at h

/-- two places of a space, and what they cut -/
theorem two_cut {s : ByteArray} {i j : Nat} (hi : idxF s.data.toList 32 0 = i) (hj : idxF s.data.toList 32 (i + 1) = j) :
    i < s.size ∧ i + 1 ≤ j ∧ j < s.size ∧ s.extract 0 i = bs (cut1 32 s.data.toList) ∧ s.extract (i + 1) j = bs (cut1 32 (cut2 32 s.data.toList)) ∧ s.extract (j + 1) s.size = bs (cut2 32 (cut2 32 s.data.toList)) := by
  have hz := len_of s
  obtain ⟨o1, h1, h2, h3⟩ := idxF_some (l := s.data.toList) (c := 32) (k := 0) (by rw [hi]; omega)
  rw [hi] at h2
  have e1 : i = o1 := by omega
  subst e1
  rw [List.drop_zero] at h1
  have c1 := cut_at h1
  obtain ⟨o2, h4, h5, h6⟩ := idxF_some (l := s.data.toList) (c := 32) (k := i + 1) (by rw [hj]; omega)
  rw [hj] at h5
  have e2 : j = i + 1 + o2 := by omega
  subst e2
  rw [← c1.2.2.1] at h4
  have c2 := cut_at h4
  refine ⟨by omega, by omega, by omega, ?_, ?_, ?_⟩
  · rw [ext_bs, c1.2.1, List.drop_zero]
  · rw [ext_bs, c2.2.1, c1.2.2.1, List.drop_take]; congr 2; omega
  · rw [ext_bs, c2.2.2.1, c1.2.2.1, List.take_of_length_le (by omega), List.drop_drop]; congr 2
theorem one_cut {s : ByteArray} {i : Nat} (hi : idxF s.data.toList 32 0 = i) : i < s.size ∧ cut2 32 s.data.toList = s.data.toList.drop (i + 1) := by
  have hz := len_of s
  obtain ⟨o1, h1, h2, h3⟩ := idxF_some (l := s.data.toList) (c := 32) (k := 0) (by rw [hi]; omega)
  rw [hi] at h2
  have e1 : i = o1 := by omega
  subst e1
  rw [List.drop_zero] at h1
  exact ⟨by omega, (cut_at h1).2.2.1⟩

theorem rPR_tok (s : ByteArray) (w : World) (i j : Nat) (HS : Hid (s.size ≤ maxLen)) (HL : Hid (¬ 2000 < s.data.toList.length)) (hle : s.size ≤ 2000)
    (HI : Hid (idxF s.data.toList 32 0 = i)) (HJ : Hid (idxF s.data.toList 32 (i + 1) = j)) (hilt : i < s.size) (q1 : i + 1 ≤ j) (q2 : j < s.size)
    (X1 : Box (s.extract 0 i = bs (cut1 32 s.data.toList))) (X2 : Box (s.extract (i + 1) j = bs (cut1 32 (cut2 32 s.data.toList)))) (X3 : Box (s.extract (j + 1) s.size = bs (cut2 32 (cut2 32 s.data.toList))))
    (Z1 : Box ((s.extract 0 i).size ≤ maxLen)) (Z2 : Box ((s.extract (i + 1) j).size ≤ maxLen)) (Z3 : Box ((s.extract (j + 1) s.size).size ≤ maxLen))
    (HT : Hid (tokL (cut1 32 s.data.toList) = false)) : Calls Try.prog 9 #[.string s] w fun e w' => e = .returned (reqV (reqL s.data.toList)) ∧ Below w.heap.size w w' := by
  go_enter Try.func9, Try.ntmps9
  go_wp2_with fail
  refine (rIndex_0 _ _ HS.out).mono ?_; rintro e w1 ⟨rfl, rfl⟩; rw [HI.out]
  go_wp2_with fail
  refine (rIndex_s _ _ _ HS.out hilt).mono ?_; rintro e w1 ⟨rfl, rfl⟩; rw [HJ.out]
  go_wp2_with fail
  refine (rToken_any _ _ Z1.out).mono ?_; rintro e w1 ⟨rfl, rfl⟩; rw [show (s.extract 0 i).data.toList = cut1 32 s.data.toList from by rw [X1.out]; rfl, HT.out]
  go_wp2
  ((try simp only [Exit.inBlock, Exit.then]); refine bodyPost_ret (results_tmp4 rfl _ _ _) rfl ?_)
  exact ⟨ret_req (req_bad HL.out (by rw [HT.out]; rfl)), Below.refl _ _⟩
theorem rPR_vis (s : ByteArray) (w : World) (i j : Nat) (HS : Hid (s.size ≤ maxLen)) (HL : Hid (¬ 2000 < s.data.toList.length)) (hle : s.size ≤ 2000)
    (HI : Hid (idxF s.data.toList 32 0 = i)) (HJ : Hid (idxF s.data.toList 32 (i + 1) = j)) (hilt : i < s.size) (q1 : i + 1 ≤ j) (q2 : j < s.size)
    (X1 : Box (s.extract 0 i = bs (cut1 32 s.data.toList))) (X2 : Box (s.extract (i + 1) j = bs (cut1 32 (cut2 32 s.data.toList)))) (X3 : Box (s.extract (j + 1) s.size = bs (cut2 32 (cut2 32 s.data.toList))))
    (Z1 : Box ((s.extract 0 i).size ≤ maxLen)) (Z2 : Box ((s.extract (i + 1) j).size ≤ maxLen)) (Z3 : Box ((s.extract (j + 1) s.size).size ≤ maxLen))
    (HT : Hid (tokL (cut1 32 s.data.toList) = true)) (HV : Hid (visL (cut1 32 (cut2 32 s.data.toList)) = false)) : Calls Try.prog 9 #[.string s] w fun e w' => e = .returned (reqV (reqL s.data.toList)) ∧ Below w.heap.size w w' := by
  go_enter Try.func9, Try.ntmps9
  go_wp2_with fail
  refine (rIndex_0 _ _ HS.out).mono ?_; rintro e w1 ⟨rfl, rfl⟩; rw [HI.out]
  go_wp2_with fail
  refine (rIndex_s _ _ _ HS.out hilt).mono ?_; rintro e w1 ⟨rfl, rfl⟩; rw [HJ.out]
  go_wp2_with fail
  refine (rToken_any _ _ Z1.out).mono ?_; rintro e w1 ⟨rfl, rfl⟩; rw [show (s.extract 0 i).data.toList = cut1 32 s.data.toList from by rw [X1.out]; rfl, HT.out]
  go_wp2_with fail
  refine (rVisible_any _ _ Z2.out).mono ?_; rintro e w1 ⟨rfl, rfl⟩; rw [show (s.extract (i + 1) j).data.toList = cut1 32 (cut2 32 s.data.toList) from by rw [X2.out]; rfl, HV.out]
  go_wp2
  ((try simp only [Exit.inBlock, Exit.then]); refine bodyPost_ret (results_tmp4 rfl _ _ _) rfl ?_)
  exact ⟨ret_req (req_bad HL.out (by rw [HT.out, HV.out]; rfl)), Below.refl _ _⟩
theorem rPR_ok (s : ByteArray) (w : World) (i j : Nat) (HS : Hid (s.size ≤ maxLen)) (HL : Hid (¬ 2000 < s.data.toList.length)) (hle : s.size ≤ 2000)
    (HI : Hid (idxF s.data.toList 32 0 = i)) (HJ : Hid (idxF s.data.toList 32 (i + 1) = j)) (hilt : i < s.size) (q1 : i + 1 ≤ j) (q2 : j < s.size)
    (X1 : Box (s.extract 0 i = bs (cut1 32 s.data.toList))) (X2 : Box (s.extract (i + 1) j = bs (cut1 32 (cut2 32 s.data.toList)))) (X3 : Box (s.extract (j + 1) s.size = bs (cut2 32 (cut2 32 s.data.toList))))
    (Z1 : Box ((s.extract 0 i).size ≤ maxLen)) (Z2 : Box ((s.extract (i + 1) j).size ≤ maxLen)) (Z3 : Box ((s.extract (j + 1) s.size).size ≤ maxLen))
    (HT : Hid (tokL (cut1 32 s.data.toList) = true)) (HV : Hid (visL (cut1 32 (cut2 32 s.data.toList)) = true)) (HE : Hid (verE (cut2 32 (cut2 32 s.data.toList)) = 0)) : Calls Try.prog 9 #[.string s] w fun e w' => e = .returned (reqV (reqL s.data.toList)) ∧ Below w.heap.size w w' := by
  go_enter Try.func9, Try.ntmps9
  go_wp2_with fail
  refine (rIndex_0 _ _ HS.out).mono ?_; rintro e w1 ⟨rfl, rfl⟩; rw [HI.out]
  go_wp2_with fail
  refine (rIndex_s _ _ _ HS.out hilt).mono ?_; rintro e w1 ⟨rfl, rfl⟩; rw [HJ.out]
  go_wp2_with fail
  refine (rToken_any _ _ Z1.out).mono ?_; rintro e w1 ⟨rfl, rfl⟩; rw [show (s.extract 0 i).data.toList = cut1 32 s.data.toList from by rw [X1.out]; rfl, HT.out]
  go_wp2_with fail
  refine (rVisible_any _ _ Z2.out).mono ?_; rintro e w1 ⟨rfl, rfl⟩; rw [show (s.extract (i + 1) j).data.toList = cut1 32 (cut2 32 s.data.toList) from by rw [X2.out]; rfl, HV.out]
  go_wp2_with fail
  refine (rversion_any _ _ Z3.out).mono ?_; rintro e w1 ⟨rfl, rfl⟩; rw [show (s.extract (j + 1) s.size).data.toList = cut2 32 (cut2 32 s.data.toList) from by rw [X3.out]; rfl]; unfold verV
  rw [HE.out]
  go_wp2
  go_quiet (fail)
  go_wp2
  ((try simp only [Exit.inBlock, Exit.then]); refine bodyPost_ret (results_tmp4 rfl _ _ _) rfl ?_)
  refine ⟨?_, below_drewN _ _⟩
  rw [req_ok HL.out HT.out HV.out HE.out]
  show Ending.returned (.tuple #[.string (s.extract 0 i), .string (s.extract (i + 1) j), .int .i64 (verM (cut2 32 (cut2 32 s.data.toList))), .int .i64 0]) = _
  rw [X1.out, X2.out]; rfl
theorem rPR_ver (s : ByteArray) (w : World) (i j : Nat) (HS : Hid (s.size ≤ maxLen)) (HL : Hid (¬ 2000 < s.data.toList.length)) (hle : s.size ≤ 2000)
    (HI : Hid (idxF s.data.toList 32 0 = i)) (HJ : Hid (idxF s.data.toList 32 (i + 1) = j)) (hilt : i < s.size) (q1 : i + 1 ≤ j) (q2 : j < s.size)
    (X1 : Box (s.extract 0 i = bs (cut1 32 s.data.toList))) (X2 : Box (s.extract (i + 1) j = bs (cut1 32 (cut2 32 s.data.toList)))) (X3 : Box (s.extract (j + 1) s.size = bs (cut2 32 (cut2 32 s.data.toList))))
    (Z1 : Box ((s.extract 0 i).size ≤ maxLen)) (Z2 : Box ((s.extract (i + 1) j).size ≤ maxLen)) (Z3 : Box ((s.extract (j + 1) s.size).size ≤ maxLen))
    (HT : Hid (tokL (cut1 32 s.data.toList) = true)) (HV : Hid (visL (cut1 32 (cut2 32 s.data.toList)) = true)) (HE : Hid (verE (cut2 32 (cut2 32 s.data.toList)) ≠ 0)) : Calls Try.prog 9 #[.string s] w fun e w' => e = .returned (reqV (reqL s.data.toList)) ∧ Below w.heap.size w w' := by
  go_enter Try.func9, Try.ntmps9
  go_wp2_with fail
  refine (rIndex_0 _ _ HS.out).mono ?_; rintro e w1 ⟨rfl, rfl⟩; rw [HI.out]
  go_wp2_with fail
  refine (rIndex_s _ _ _ HS.out hilt).mono ?_; rintro e w1 ⟨rfl, rfl⟩; rw [HJ.out]
  go_wp2_with fail
  refine (rToken_any _ _ Z1.out).mono ?_; rintro e w1 ⟨rfl, rfl⟩; rw [show (s.extract 0 i).data.toList = cut1 32 s.data.toList from by rw [X1.out]; rfl, HT.out]
  go_wp2_with fail
  refine (rVisible_any _ _ Z2.out).mono ?_; rintro e w1 ⟨rfl, rfl⟩; rw [show (s.extract (i + 1) j).data.toList = cut1 32 (cut2 32 s.data.toList) from by rw [X2.out]; rfl, HV.out]
  go_wp2_with fail
  refine (rversion_any _ _ Z3.out).mono ?_; rintro e w1 ⟨rfl, rfl⟩; rw [show (s.extract (j + 1) s.size).data.toList = cut2 32 (cut2 32 s.data.toList) from by rw [X3.out]; rfl]; unfold verV
  have hE2 := bne0 HE.out
  go_wp2
  ((try simp only [Exit.inBlock, Exit.then]); refine bodyPost_ret (results_tmp4 rfl _ _ _) rfl ?_)
  exact ⟨ret_req (req_ver HL.out HT.out HV.out HE.out), Below.refl _ _⟩

theorem rParseRequest_any (s : ByteArray) (w : World) (hs : s.size ≤ maxLen) :
    Calls Try.prog 9 #[.string s] w fun e w' => e = .returned (reqV (reqL s.data.toList)) ∧ Below w.heap.size w w' := by
  by_cases hl : 2000 < s.size
  · unfold maxLen at hs
    go_enter Try.func9, Try.ntmps9
    go_wp2
    ((try simp only [Exit.inBlock, Exit.then]); refine bodyPost_ret (results_tmp4 rfl _ _ _) rfl ?_)
    exact ⟨ret_req (req_long (long_of hl)), Below.refl _ _⟩
  · have HS := Lib.hid hs
    have HL := Lib.hid (nlong_of hl)
    have hle : s.size ≤ 2000 := by omega
    clear hs
    by_cases h0 : idxF s.data.toList 32 0 < 0
    · have H0 := Lib.hid (idxF_none h0)
      go_enter Try.func9, Try.ntmps9
      go_wp2_with fail
      refine (rIndex_0 _ _ HS.out).mono ?_; rintro e w1 ⟨rfl, rfl⟩
      go_wp2
      ((try simp only [Exit.inBlock, Exit.then]); refine bodyPost_ret (results_tmp4 rfl _ _ _) rfl ?_)
      exact ⟨ret_req (req_cut0 HL.out (by have := H0.out; rwa [List.drop_zero] at this)), Below.refl _ _⟩
    · obtain ⟨i, hi⟩ : ∃ i : Nat, idxF s.data.toList 32 0 = i := ⟨(idxF s.data.toList 32 0).toNat, by omega⟩
      have HI := Lib.hid hi
      have hilt : i < s.size := (one_cut hi).1
      have HC := Lib.hid (one_cut hi).2
      clear h0
      by_cases h1 : idxF s.data.toList 32 (i + 1) < 0
      · have H1 := Lib.hid (idxF_none h1)
        clear hi
        go_enter Try.func9, Try.ntmps9
        go_wp2_with fail
        refine (rIndex_0 _ _ HS.out).mono ?_; rintro e w1 ⟨rfl, rfl⟩; rw [HI.out]
        go_wp2_with fail
        refine (rIndex_s _ _ _ HS.out hilt).mono ?_; rintro e w1 ⟨rfl, rfl⟩
        go_wp2
        ((try simp only [Exit.inBlock, Exit.then]); refine bodyPost_ret (results_tmp4 rfl _ _ _) rfl ?_)
        exact ⟨ret_req (req_cut1 HL.out (by rw [HC.out]; exact H1.out)), Below.refl _ _⟩
      · obtain ⟨j, hj⟩ : ∃ j : Nat, idxF s.data.toList 32 (i + 1) = j := ⟨(idxF s.data.toList 32 (i + 1)).toNat, by omega⟩
        have HJ := Lib.hid hj
        obtain ⟨_, q1, q2, x1, x2, x3⟩ := two_cut hi hj
        have X1 := box x1
        have X2 := box x2
        have X3 := box x3
        have Z1 : Box ((s.extract 0 i).size ≤ maxLen) := box (by rw [X1.out]; exact bs_le (cut1_le 32 s.data.toList) HL.out)
        have Z2 : Box ((s.extract (i + 1) j).size ≤ maxLen) := box (by rw [X2.out]; exact bs_le (Nat.le_trans (cut1_le 32 (cut2 32 s.data.toList)) (cut2_le 32 s.data.toList)) HL.out)
        have Z3 : Box ((s.extract (j + 1) s.size).size ≤ maxLen) := box (by rw [X3.out]; exact bs_le (Nat.le_trans (cut2_le 32 (cut2 32 s.data.toList)) (cut2_le 32 s.data.toList)) HL.out)
        rcases ht : tokL (cut1 32 s.data.toList) with _ | _
        · exact rPR_tok s w i j HS HL hle HI HJ hilt q1 q2 X1 X2 X3 Z1 Z2 Z3 (Lib.hid ht)
        · rcases hv : visL (cut1 32 (cut2 32 s.data.toList)) with _ | _
          · exact rPR_vis s w i j HS HL hle HI HJ hilt q1 q2 X1 X2 X3 Z1 Z2 Z3 (Lib.hid ht) (Lib.hid hv)
          · by_cases hE : verE (cut2 32 (cut2 32 s.data.toList)) = 0
            · exact rPR_ok s w i j HS HL hle HI HJ hilt q1 q2 X1 X2 X3 Z1 Z2 Z3 (Lib.hid ht) (Lib.hid hv) (Lib.hid hE)
            · exact rPR_ver s w i j HS HL hle HI HJ hilt q1 q2 X1 X2 X3 Z1 Z2 Z3 (Lib.hid ht) (Lib.hid hv) (Lib.hid hE)

end Go.Proofs.Ytcpmacmcfedaaaa.Asc
