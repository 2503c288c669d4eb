/- Merged texts: StaRef LstSame LstRem MsgMem MsgRef4 AscDec AscRDec. -/
import Derived.Test.YtjabcfabenobiaaM02
import Derived.Test.YtjabcfabenobiaaM04
import Derived.Test.YtjabcfabenobiaaM05
import Derived.Test.YtjabcfabenobiaaM07
import Derived.Test.YtjabcfabenobiaaM08
import Derived.Laws.AppendOwnNone
import Derived.Laws.EntriesVeiled
import Derived.Laws.ResultCell
set_option linter.unusedVariables false
set_option linter.unusedSimpArgs false
set_option maxRecDepth 100000
namespace Go.Proofs.Ytjabcfabenobiaa.Asc
section
open Go.RowKit
theorem rIndex_0 (s : ByteArray) (w : World) (hs : s.size ≤ maxLen) :
    Calls Try.prog 37 #[.string s, .int .u8 32, .int .i64 0] w fun e w' => e = .returned (.int .i64 (idxF s.data.toList 32 0)) ∧ w = w' :=
  rIndex_any s 32 32 0 w hs (Nat.zero_le _) rfl
theorem rIndex_s (s : ByteArray) (f : Nat) (w : World) (hs : s.size ≤ maxLen) (hf : f < s.size) :
    Calls Try.prog 37 #[.string s, .int .u8 32, .int .i64 ((f : Int) + 1)] w fun e w' => e = .returned (.int .i64 (idxF s.data.toList 32 (f + 1))) ∧ w = w' := by
  have h := rIndex_any s 32 32 (f + 1) w hs hf rfl
  rwa [show (((f + 1 : Nat)) : Int) = (f : Int) + 1 from by push_cast; rfl] at h
/-- two places of a space, and what they cut -/
theorem two_cut {s : ByteArray} {i j : Nat} (hi : idxF s.data.toList 32 0 = i) (hj : idxF s.data.toList 32 (i + 1) = j) :
    i < s.size ∧ i + 1 ≤ j ∧ j < s.size ∧ s.extract 0 i = bs (cut1 32 s.data.toList) ∧ s.extract (i + 1) j = bs (cut1 32 (cut2 32 s.data.toList)) ∧ s.extract (j + 1) s.size = bs (cut2 32 (cut2 32 s.data.toList)) := by
  have hz := len_of s
  obtain ⟨o1, h1, h2, h3⟩ := idxF_some (l := s.data.toList) (c := 32) (k := 0) (by rw [hi]; omega)
  rw [hi] at h2
  have e1 : i = o1 := by omega
  subst e1
  rw [List.drop_zero] at h1
  have c1 := cut_at h1
  obtain ⟨o2, h4, h5, h6⟩ := idxF_some (l := s.data.toList) (c := 32) (k := i + 1) (by rw [hj]; omega)
  rw [hj] at h5
  have e2 : j = i + 1 + o2 := by omega
  subst e2
  rw [← c1.2.2.1] at h4
  have c2 := cut_at h4
  refine ⟨by omega, by omega, by omega, ?_, ?_, ?_⟩
  · rw [ext_bs, c1.2.1, List.drop_zero]
  · rw [ext_bs, c2.2.1, c1.2.2.1, List.drop_take]; congr 2; omega
  · rw [ext_bs, c2.2.2.1, c1.2.2.1, List.take_of_length_le (by omega), List.drop_drop]; congr 2
theorem one_cut {s : ByteArray} {i : Nat} (hi : idxF s.data.toList 32 0 = i) : i < s.size ∧ cut2 32 s.data.toList = s.data.toList.drop (i + 1) := by
  have hz := len_of s
  obtain ⟨o1, h1, h2, h3⟩ := idxF_some (l := s.data.toList) (c := 32) (k := 0) (by rw [hi]; omega)
  rw [hi] at h2
  have e1 : i = o1 := by omega
  subst e1
  rw [List.drop_zero] at h1
  exact ⟨by omega, (cut_at h1).2.2.1⟩
theorem rPR_tok (s : ByteArray) (w : World) (i j : Nat) (HS : Hid (s.size ≤ maxLen)) (HL : Hid (¬ 2000 < s.data.toList.length)) (hle : s.size ≤ 2000)
    (HI : Hid (idxF s.data.toList 32 0 = i)) (HJ : Hid (idxF s.data.toList 32 (i + 1) = j)) (hilt : i < s.size) (q1 : i + 1 ≤ j) (q2 : j < s.size)
    (X1 : Box (s.extract 0 i = bs (cut1 32 s.data.toList))) (X2 : Box (s.extract (i + 1) j = bs (cut1 32 (cut2 32 s.data.toList)))) (X3 : Box (s.extract (j + 1) s.size = bs (cut2 32 (cut2 32 s.data.toList))))
    (Z1 : Box ((s.extract 0 i).size ≤ maxLen)) (Z2 : Box ((s.extract (i + 1) j).size ≤ maxLen)) (Z3 : Box ((s.extract (j + 1) s.size).size ≤ maxLen))
    (HT : Hid (tokL (cut1 32 s.data.toList) = false)) : Calls Try.prog 28 #[.string s] w fun e w' => e = .returned (reqV (reqL s.data.toList)) ∧ Below w.heap.size w w' := by
  go_enter Try.func28, Try.ntmps28
  go_wp2_with fail
  refine (rIndex_0 _ _ HS.out).mono ?_; rintro e w1 ⟨rfl, rfl⟩; rw [HI.out]
  go_wp2_with fail
  refine (rIndex_s _ _ _ HS.out hilt).mono ?_; rintro e w1 ⟨rfl, rfl⟩; rw [HJ.out]
  go_wp2_with fail
  refine (rToken_any _ _ Z1.out).mono ?_; rintro e w1 ⟨rfl, rfl⟩; rw [show (s.extract 0 i).data.toList = cut1 32 s.data.toList from by rw [X1.out]; rfl, HT.out]
  go_wp2
  ((try simp only [Exit.inBlock, Exit.then]); refine bodyPost_ret (results_tmp4 rfl _ _ _) rfl ?_)
  exact ⟨ret_req (req_bad HL.out (by rw [HT.out]; rfl)), Below.refl _ _⟩
theorem rPR_vis (s : ByteArray) (w : World) (i j : Nat) (HS : Hid (s.size ≤ maxLen)) (HL : Hid (¬ 2000 < s.data.toList.length)) (hle : s.size ≤ 2000)
    (HI : Hid (idxF s.data.toList 32 0 = i)) (HJ : Hid (idxF s.data.toList 32 (i + 1) = j)) (hilt : i < s.size) (q1 : i + 1 ≤ j) (q2 : j < s.size)
    (X1 : Box (s.extract 0 i = bs (cut1 32 s.data.toList))) (X2 : Box (s.extract (i + 1) j = bs (cut1 32 (cut2 32 s.data.toList)))) (X3 : Box (s.extract (j + 1) s.size = bs (cut2 32 (cut2 32 s.data.toList))))
    (Z1 : Box ((s.extract 0 i).size ≤ maxLen)) (Z2 : Box ((s.extract (i + 1) j).size ≤ maxLen)) (Z3 : Box ((s.extract (j + 1) s.size).size ≤ maxLen))
    (HT : Hid (tokL (cut1 32 s.data.toList) = true)) (HV : Hid (visL (cut1 32 (cut2 32 s.data.toList)) = false)) : Calls Try.prog 28 #[.string s] w fun e w' => e = .returned (reqV (reqL s.data.toList)) ∧ Below w.heap.size w w' := by
  go_enter Try.func28, Try.ntmps28
  go_wp2_with fail
  refine (rIndex_0 _ _ HS.out).mono ?_; rintro e w1 ⟨rfl, rfl⟩; rw [HI.out]
  go_wp2_with fail
  refine (rIndex_s _ _ _ HS.out hilt).mono ?_; rintro e w1 ⟨rfl, rfl⟩; rw [HJ.out]
  go_wp2_with fail
  refine (rToken_any _ _ Z1.out).mono ?_; rintro e w1 ⟨rfl, rfl⟩; rw [show (s.extract 0 i).data.toList = cut1 32 s.data.toList from by rw [X1.out]; rfl, HT.out]
  go_wp2_with fail
  refine (rVisible_any _ _ Z2.out).mono ?_; rintro e w1 ⟨rfl, rfl⟩; rw [show (s.extract (i + 1) j).data.toList = cut1 32 (cut2 32 s.data.toList) from by rw [X2.out]; rfl, HV.out]
  go_wp2
  ((try simp only [Exit.inBlock, Exit.then]); refine bodyPost_ret (results_tmp4 rfl _ _ _) rfl ?_)
  exact ⟨ret_req (req_bad HL.out (by rw [HT.out, HV.out]; rfl)), Below.refl _ _⟩
theorem rPR_ok (s : ByteArray) (w : World) (i j : Nat) (HS : Hid (s.size ≤ maxLen)) (HL : Hid (¬ 2000 < s.data.toList.length)) (hle : s.size ≤ 2000)
    (HI : Hid (idxF s.data.toList 32 0 = i)) (HJ : Hid (idxF s.data.toList 32 (i + 1) = j)) (hilt : i < s.size) (q1 : i + 1 ≤ j) (q2 : j < s.size)
    (X1 : Box (s.extract 0 i = bs (cut1 32 s.data.toList))) (X2 : Box (s.extract (i + 1) j = bs (cut1 32 (cut2 32 s.data.toList)))) (X3 : Box (s.extract (j + 1) s.size = bs (cut2 32 (cut2 32 s.data.toList))))
    (Z1 : Box ((s.extract 0 i).size ≤ maxLen)) (Z2 : Box ((s.extract (i + 1) j).size ≤ maxLen)) (Z3 : Box ((s.extract (j + 1) s.size).size ≤ maxLen))
    (HT : Hid (tokL (cut1 32 s.data.toList) = true)) (HV : Hid (visL (cut1 32 (cut2 32 s.data.toList)) = true)) (HE : Hid (verE (cut2 32 (cut2 32 s.data.toList)) = 0)) : Calls Try.prog 28 #[.string s] w fun e w' => e = .returned (reqV (reqL s.data.toList)) ∧ Below w.heap.size w w' := by
  go_enter Try.func28, Try.ntmps28
  go_wp2_with fail
  refine (rIndex_0 _ _ HS.out).mono ?_; rintro e w1 ⟨rfl, rfl⟩; rw [HI.out]
  go_wp2_with fail
  refine (rIndex_s _ _ _ HS.out hilt).mono ?_; rintro e w1 ⟨rfl, rfl⟩; rw [HJ.out]
  go_wp2_with fail
  refine (rToken_any _ _ Z1.out).mono ?_; rintro e w1 ⟨rfl, rfl⟩; rw [show (s.extract 0 i).data.toList = cut1 32 s.data.toList from by rw [X1.out]; rfl, HT.out]
  go_wp2_with fail
  refine (rVisible_any _ _ Z2.out).mono ?_; rintro e w1 ⟨rfl, rfl⟩; rw [show (s.extract (i + 1) j).data.toList = cut1 32 (cut2 32 s.data.toList) from by rw [X2.out]; rfl, HV.out]
  go_wp2_with fail
  refine (rversion_any _ _ Z3.out).mono ?_; rintro e w1 ⟨rfl, rfl⟩; rw [show (s.extract (j + 1) s.size).data.toList = cut2 32 (cut2 32 s.data.toList) from by rw [X3.out]; rfl]; unfold verV
  rw [HE.out]
  go_wp2
  go_quiet (fail)
  go_wp2
  ((try simp only [Exit.inBlock, Exit.then]); refine bodyPost_ret (results_tmp4 rfl _ _ _) rfl ?_)
  refine ⟨?_, below_drewN _ _⟩
  rw [req_ok HL.out HT.out HV.out HE.out]
  show Ending.returned (.tuple #[.string (s.extract 0 i), .string (s.extract (i + 1) j), .int .i64 (verM (cut2 32 (cut2 32 s.data.toList))), .int .i64 0]) = _
  rw [X1.out, X2.out]; rfl
theorem rPR_ver (s : ByteArray) (w : World) (i j : Nat) (HS : Hid (s.size ≤ maxLen)) (HL : Hid (¬ 2000 < s.data.toList.length)) (hle : s.size ≤ 2000)
    (HI : Hid (idxF s.data.toList 32 0 = i)) (HJ : Hid (idxF s.data.toList 32 (i + 1) = j)) (hilt : i < s.size) (q1 : i + 1 ≤ j) (q2 : j < s.size)
    (X1 : Box (s.extract 0 i = bs (cut1 32 s.data.toList))) (X2 : Box (s.extract (i + 1) j = bs (cut1 32 (cut2 32 s.data.toList)))) (X3 : Box (s.extract (j + 1) s.size = bs (cut2 32 (cut2 32 s.data.toList))))
    (Z1 : Box ((s.extract 0 i).size ≤ maxLen)) (Z2 : Box ((s.extract (i + 1) j).size ≤ maxLen)) (Z3 : Box ((s.extract (j + 1) s.size).size ≤ maxLen))
    (HT : Hid (tokL (cut1 32 s.data.toList) = true)) (HV : Hid (visL (cut1 32 (cut2 32 s.data.toList)) = true)) (HE : Hid (verE (cut2 32 (cut2 32 s.data.toList)) ≠ 0)) : Calls Try.prog 28 #[.string s] w fun e w' => e = .returned (reqV (reqL s.data.toList)) ∧ Below w.heap.size w w' := by
  go_enter Try.func28, Try.ntmps28
  go_wp2_with fail
  refine (rIndex_0 _ _ HS.out).mono ?_; rintro e w1 ⟨rfl, rfl⟩; rw [HI.out]
  go_wp2_with fail
  refine (rIndex_s _ _ _ HS.out hilt).mono ?_; rintro e w1 ⟨rfl, rfl⟩; rw [HJ.out]
  go_wp2_with fail
  refine (rToken_any _ _ Z1.out).mono ?_; rintro e w1 ⟨rfl, rfl⟩; rw [show (s.extract 0 i).data.toList = cut1 32 s.data.toList from by rw [X1.out]; rfl, HT.out]
  go_wp2_with fail
  refine (rVisible_any _ _ Z2.out).mono ?_; rintro e w1 ⟨rfl, rfl⟩; rw [show (s.extract (i + 1) j).data.toList = cut1 32 (cut2 32 s.data.toList) from by rw [X2.out]; rfl, HV.out]
  go_wp2_with fail
  refine (rversion_any _ _ Z3.out).mono ?_; rintro e w1 ⟨rfl, rfl⟩; rw [show (s.extract (j + 1) s.size).data.toList = cut2 32 (cut2 32 s.data.toList) from by rw [X3.out]; rfl]; unfold verV
  have hE2 := bne0 HE.out
  go_wp2
  ((try simp only [Exit.inBlock, Exit.then]); refine bodyPost_ret (results_tmp4 rfl _ _ _) rfl ?_)
  exact ⟨ret_req (req_ver HL.out HT.out HV.out HE.out), Below.refl _ _⟩
theorem rParseRequest_any (s : ByteArray) (w : World) (hs : s.size ≤ maxLen) :
    Calls Try.prog 28 #[.string s] w fun e w' => e = .returned (reqV (reqL s.data.toList)) ∧ Below w.heap.size w w' := by
  by_cases hl : 2000 < s.size
  · unfold maxLen at hs
    go_enter Try.func28, Try.ntmps28
    go_wp2
    ((try simp only [Exit.inBlock, Exit.then]); refine bodyPost_ret (results_tmp4 rfl _ _ _) rfl ?_)
    exact ⟨ret_req (req_long (long_of hl)), Below.refl _ _⟩
  · have HS := Lib.hid hs
    have HL := Lib.hid (nlong_of hl)
    have hle : s.size ≤ 2000 := by omega
    clear hs
    by_cases h0 : idxF s.data.toList 32 0 < 0
    · have H0 := Lib.hid (idxF_none h0)
      go_enter Try.func28, Try.ntmps28
      go_wp2_with fail
      refine (rIndex_0 _ _ HS.out).mono ?_; rintro e w1 ⟨rfl, rfl⟩
      go_wp2
      ((try simp only [Exit.inBlock, Exit.then]); refine bodyPost_ret (results_tmp4 rfl _ _ _) rfl ?_)
      exact ⟨ret_req (req_cut0 HL.out (by have := H0.out; rwa [List.drop_zero] at this)), Below.refl _ _⟩
    · obtain ⟨i, hi⟩ : ∃ i : Nat, idxF s.data.toList 32 0 = i := ⟨(idxF s.data.toList 32 0).toNat, by omega⟩
      have HI := Lib.hid hi
      have hilt : i < s.size := (one_cut hi).1
      have HC := Lib.hid (one_cut hi).2
      clear h0
      by_cases h1 : idxF s.data.toList 32 (i + 1) < 0
      · have H1 := Lib.hid (idxF_none h1)
        clear hi
        go_enter Try.func28, Try.ntmps28
        go_wp2_with fail
        refine (rIndex_0 _ _ HS.out).mono ?_; rintro e w1 ⟨rfl, rfl⟩; rw [HI.out]
        go_wp2_with fail
        refine (rIndex_s _ _ _ HS.out hilt).mono ?_; rintro e w1 ⟨rfl, rfl⟩
        go_wp2
        ((try simp only [Exit.inBlock, Exit.then]); refine bodyPost_ret (results_tmp4 rfl _ _ _) rfl ?_)
        exact ⟨ret_req (req_cut1 HL.out (by rw [HC.out]; exact H1.out)), Below.refl _ _⟩
      · obtain ⟨j, hj⟩ : ∃ j : Nat, idxF s.data.toList 32 (i + 1) = j := ⟨(idxF s.data.toList 32 (i + 1)).toNat, by omega⟩
        have HJ := Lib.hid hj
        obtain ⟨_, q1, q2, x1, x2, x3⟩ := two_cut hi hj
        have X1 := box x1
        have X2 := box x2
        have X3 := box x3
        have Z1 : Box ((s.extract 0 i).size ≤ maxLen) := box (by rw [X1.out]; exact bs_le (cut1_le 32 s.data.toList) HL.out)
        have Z2 : Box ((s.extract (i + 1) j).size ≤ maxLen) := box (by rw [X2.out]; exact bs_le (Nat.le_trans (cut1_le 32 (cut2 32 s.data.toList)) (cut2_le 32 s.data.toList)) HL.out)
        have Z3 : Box ((s.extract (j + 1) s.size).size ≤ maxLen) := box (by rw [X3.out]; exact bs_le (Nat.le_trans (cut2_le 32 (cut2 32 s.data.toList)) (cut2_le 32 s.data.toList)) HL.out)
        rcases ht : tokL (cut1 32 s.data.toList) with _ | _
        · exact rPR_tok s w i j HS HL hle HI HJ hilt q1 q2 X1 X2 X3 Z1 Z2 Z3 (Lib.hid ht)
        · rcases hv : visL (cut1 32 (cut2 32 s.data.toList)) with _ | _
          · exact rPR_vis s w i j HS HL hle HI HJ hilt q1 q2 X1 X2 X3 Z1 Z2 Z3 (Lib.hid ht) (Lib.hid hv)
          · by_cases hE : verE (cut2 32 (cut2 32 s.data.toList)) = 0
            · exact rPR_ok s w i j HS HL hle HI HJ hilt q1 q2 X1 X2 X3 Z1 Z2 Z3 (Lib.hid ht) (Lib.hid hv) (Lib.hid hE)
            · exact rPR_ver s w i j HS HL hle HI HJ hilt q1 q2 X1 X2 X3 Z1 Z2 Z3 (Lib.hid ht) (Lib.hid hv) (Lib.hid hE)
end
section
open Go.RowKit
theorem str_eq {a b : ByteArray} (h : (a.toList == b.toList) = true) : a = b := by
  rw [toList_data, toList_data] at h
  rw [bs_of a, bs_of b, eq_of_beq h]
theorem take_same {α : Type} {K L : List α} {k : Nat} (hK : k < K.length) (hL : k < L.length) (h : K.take k = L.take k) (e : K[k] = L[k]) : K.take (k + 1) = L.take (k + 1) := by
  rw [take_next hK, take_next hL, h, e]
theorem not_same {α : Type} {K L : List α} {k : Nat} (hK : k < K.length) (hL : k < L.length) (e : K[k] ≠ L[k]) : K ≠ L := by
  intro h; subst h; exact e rfl
theorem fld_eq {p q : F} (h1 : (p.1.toList == q.1.toList) = true) (h2 : (p.2.toList == q.2.toList) = true) : p = q := by
  obtain ⟨a, b⟩ := p
  obtain ⟨c, d⟩ := q
  rw [show a = c from str_eq h1, show b = d from str_eq h2]
set_option maxHeartbeats 800000 in
theorem SameF_any (a b : Option Addr) (ca cb : Nat) (K L : List F) (w : World) (hk : K.length ≤ 65536) (hl : L.length ≤ 65536) (hK : Box (Fs w a K)) (hL : Box (Fs w b L)) :
    Calls Try.prog 22 #[.slice a K.length ca, .slice b L.length cb] w fun e w' => e = .returned (.bool (decide (K = L))) ∧ Below w.heap.size w w' := by
  by_cases hn : K.length = L.length
  · have HN := box hn
    have hne : ((K.length : Int) != (L.length : Int)) = false := by simp [hn]
    clear hn
    go_enter Try.func22, Try.ntmps22
    go_wp2
    go_loopw [5] (fun i wr => ∃ k : Nat, k ≤ K.length ∧ i = .int .i64 k ∧ K.take k = L.take k ∧ Below w.heap.size w wr) (fun i _ => K.length - (intOf i).toNat)
    case atStart => exact ⟨0, Nat.zero_le _, rfl, rfl, Below.refl _ _⟩
    case round =>
      obtain ⟨k, hk2, rfl, hall, hbel⟩ := hrel
      have HA := box hall
      clear hall
      by_cases hlt : k < K.length
      · have hlt2 : k < L.length := by rw [← HN.out]; exact hlt
        obtain ⟨q, off, rfl, c0, c1⟩ := (hK.out.below hbel) k hlt
        obtain ⟨r, off2, rfl, d0, d1⟩ := (hL.out.below hbel) k hlt2
        rcases h1 : (K[k].1.toList == L[k].1.toList) with _ | _
        · go_wp2
          go_quiet (fail)
          go_wp2
          go_ret
          have hne2 : K[k] ≠ L[k] := fun e => by rw [e] at h1; simp at h1
          exact ⟨ret_bool (decide_eq_false (not_same hlt hlt2 hne2)).symm, hbel.trans ((below_drewN _ _).mono hbel.size)⟩
        · rcases h2 : (K[k].2.toList == L[k].2.toList) with _ | _
          · go_wp2
            go_quiet (fail)
            go_wp2
            go_ret
            have hne2 : K[k] ≠ L[k] := fun e => by rw [e] at h2; simp at h2
            exact ⟨ret_bool (decide_eq_false (not_same hlt hlt2 hne2)).symm, hbel.trans ((below_drewN _ _).mono hbel.size)⟩
          · have E := box (fld_eq h1 h2)
            go_wp2
            go_quiet (fail)
            go_wp2
            go_roundw
            case rel => exact ⟨k + 1, by omega, by go_num, take_same hlt hlt2 HA.out E.out, hbel.trans ((below_drewN _ _).mono hbel.size)⟩
            case measure => simp [intOf]; omega
      · have e : k = K.length := by omega
        have E : Box (K = L) := box (by
          have h := HA.out
          subst e
          rw [List.take_length, HN.out, List.take_length] at h
          exact h)
        clear e
        go_wp2
        go_ret
        exact ⟨ret_bool (decide_eq_true E.out).symm, hbel⟩
  · have hne : ((K.length : Int) != (L.length : Int)) = true := by simp; omega
    have HN := box hn
    clear hn
    go_enter Try.func22, Try.ntmps22
    go_wp2
    go_ret
    exact ⟨ret_bool (decide_eq_false (fun e => HN.out (by rw [e]))).symm, Below.refl _ _⟩
end
section
open Go.RowKit
/-- what the function value of Remove has captured: a variable that holds the function value of named -/
def Cap (g2 g1 : Nat) (nm : ByteArray) (w : World) : Prop := w.cell? ⟨g2, 0, none⟩ = some (nmV g1) ∧ Nm g1 nm w
theorem Cap.below {w w' : World} {g2 g1 : Nat} {nm : ByteArray} (h : Cap g2 g1 nm w) (hb : Below w.heap.size w w') : Cap g2 g1 nm w' := ⟨(hb.cell (cell_lt h.1)).trans h.1, h.2.below hb⟩
theorem rem_any (g2 g1 : Nat) (nm n v : ByteArray) (w : World) (N : Box (n.size ≤ 65536)) (M : Box (nm.size ≤ 65536)) (h : Box (Cap g2 g1 nm w)) :
    Calls Try.prog 83 #[.agg #[.string n, .string v], .pointer (some ⟨g2, 0, none⟩)] w fun e w' => e = .returned (.bool (!nmd nm (n, v))) ∧ Below w.heap.size w w' := by
  have c0 : w.cell? ⟨g2, 0, none⟩ = some (.func (.func 71) #[] #[.pointer (some ⟨g1, 0, none⟩)]) := h.out.1
  have hlt := cell_lt c0
  simp only at hlt
  go_enter Try.func83, Try.ntmps83
  go_wp2_with fail
  refine (clo_any g1 nm n v _ N M (box (h.out.2.below (below_new _ _)))).mono ?_; rintro e w1 ⟨rfl, hb1⟩
  go_wp2
  go_ret
  exact ⟨rfl, (below_new w _).trans (hb1.mono (below_new w _).size)⟩
theorem ans_rem (g2 g1 : Nat) (nm : ByteArray) (M : Box (nm.size ≤ 65536)) : Ans 83 (.pointer (some ⟨g2, 0, none⟩)) (fun p => !nmd nm p) (Cap g2 g1 nm) :=
  fun n v w h hn => rem_any g2 g1 nm n v w (box hn) M (box h)
theorem Remove_any (a : Option Addr) (cap : Nat) (L : List F) (nm : ByteArray) (w : World) (hl : L.length ≤ 65536) (S : Box (Sm L)) (M : Box (nm.size ≤ 65536)) (hF : Box (Fs w a L)) :
    Calls Try.prog 65 #[.slice a L.length cap, .string nm] w fun e w' => ∃ v, e = .returned v ∧ OwnF w' w.heap.size v (remL nm L) ∧ Below w.heap.size w w' := by
  have hmf : ∀ (fn : Fn) (first cap : Array Value) (w : World), (Instr.makeFunc fn first cap).run Try.prog w = .ok (.func fn first cap) w := fun _ _ _ _ => rfl
  go_enter Try.func65, Try.ntmps65
  go_wp2_with fail
  refine (named_any nm _).mono ?_; rintro e w1 ⟨rfl, rfl⟩
  unfold nmV
  go_wp2_with fail
  have C0 : Cap (w.heap.size + 1) w.heap.size nm ((w.alloc (.cells #[.string nm] 9)).alloc (.cells #[nmV w.heap.size] 37)) := by
    refine ⟨?_, (Nm.new nm w _).below (below_new _ _)⟩
    rw [World.cell?_alloc_at _ _ _ _ (by simp)]; rfl
  have CB := box C0
  have b1 : Below w.heap.size w ((w.alloc (.cells #[.string nm] 9)).alloc (.cells #[nmV w.heap.size] 37)) := (below_new w _).alloc (by simp) _
  have BB := box b1
  clear C0 b1
  refine (filterR_any a cap L _ (fun p => !nmd nm p) (Cap (w.heap.size + 1) w.heap.size nm) _ hl S (box (hF.out.below BB.out)) (box (ans_rem _ _ nm M)) (box (fun w' hb => CB.out.below hb))).mono ?_
  rintro e w2 ⟨v, rfl, hO, hb2⟩
  have O := box (Go.Joins.ownsRow_le hO BB.out.size)
  replace BB := box (BB.out.trans (hb2.mono BB.out.size))
  clear hO hb2
  go_wp2
  go_ret
  exact ⟨_, rfl, O.out, BB.out⟩
theorem rem_more {nm : ByteArray} {L : List F} {k : Nat} (h : k < L.length) : remL nm (L.take (k + 1)) = remL nm (L.take k) ++ (if nmd nm L[k] then [] else [L[k]]) := by
  unfold remL; rw [filter_more h]; cases nmd nm L[k] <;> rfl
theorem rem_le {nm : ByteArray} {L : List F} {k : Nat} : (remL nm (L.take k)).length ≤ L.length := by
  unfold remL; exact filter_le
set_option maxHeartbeats 800000 in
theorem rRemove_any (a : Option Addr) (cap : Nat) (L : List F) (nm : ByteArray) (w : World) (hl : L.length ≤ 65536) (S : Box (Sm L)) (M : Box (nm.size ≤ 65536)) (hF : Box (Fs w a L)) :
    Calls Try.prog 16 #[.slice a L.length cap, .string nm] w fun e w' => ∃ v, e = .returned v ∧ OwnF w' w.heap.size v (remL nm L) ∧ Below w.heap.size w w' := by
  go_enter Try.func16, Try.ntmps16
  go_wp2
  go_loopw [5, 6] (fun v i wr => ∃ k : Nat, k ≤ L.length ∧ i = .int .i64 k ∧ OwnF wr w.heap.size v (remL nm (L.take k)) ∧ Below w.heap.size w wr) (fun _ i _ => L.length - (intOf i).toNat)
  case atStart => exact ⟨0, Nat.zero_le _, rfl, OwnF.nil _ _, Below.refl _ _⟩
  case round =>
    obtain ⟨k, hk, rfl, hO, hbel⟩ := hrel
    by_cases hlt : k < L.length
    · obtain ⟨q, off, rfl, c0, c1⟩ := (hF.out.below hbel) k hlt
      have B1 := box ((S.out.2 k hlt).1)
      have O := box hO
      have BL := box hbel
      clear hO hbel
      go_wp2_with fail
      refine (rFold_any L[k].1 nm _ (small_4g B1.out) (small_4g M.out)).mono ?_; rintro e w1 ⟨rfl, hb1⟩
      have c2 := hb1.cell (p := ⟨q, off + k * 2 + 1, none⟩) (cell_lt c1)
      have c3 := hb1.cell (p := ⟨q, off + k * 2, none⟩) (cell_lt c0)
      have O1 := box (own_below O.out hb1)
      have BL1 := box (BL.out.trans (hb1.mono BL.out.size))
      have hbs := BL1.out.size
      rw [c1] at c2
      rw [c0] at c3
      clear hb1 c0 c1
      rcases hp : nmd nm L[k] with _ | _
      · rw [show foldL L[k].1.data.toList nm.data.toList = false from hp]
        have HP := box hp
        clear hp
        go_wp2_with (at_builtin; refine wpList_append_fld _ rfl (.tmp 21) (.tmp 26) rfl w.heap.size _ (remL nm (L.take k)) rfl ?a1 _ _ rfl L[k].1 L[k].2 ?b1 ?b2 ?c1 ?d1 ?_)
        case a1 => exact own_below O1.out (below_new _ _)
        case b1 => go_simp
        case b2 => go_simp
        case c1 => exact Nat.le_trans rem_le hl
        case d1 => simp; omega
        intro v' w3 hO2 hb2
        have O2 := box hO2
        clear hO2
        go_wp2
        go_roundw
        case rel => exact ⟨k + 1, by omega, by go_num, by rw [rem_more hlt, HP.out]; exact O2.out, (BL1.out.alloc BL1.out.size _).trans hb2⟩
        case measure => simp [intOf]; omega
      · rw [show foldL L[k].1.data.toList nm.data.toList = true from hp]
        have HP := box hp
        clear hp
        go_wp2
        go_roundw
        case rel => exact ⟨k + 1, by omega, by go_num, by rw [rem_more hlt, HP.out, if_pos rfl, List.append_nil]; exact O1.out, BL1.out⟩
        case measure => simp [intOf]; omega
    · have e : k = L.length := by omega
      subst e
      rw [List.take_length] at hO
      go_wp2
      go_ret
      exact ⟨_, rfl, hO, hbel⟩
end
section
open Go.RowKit
theorem results_cell_tmp2 {fn : Func} {p u x : Tmp} {ty : TypeId} (h : fn.results = #[.cell p ty, .tmp u, .tmp x]) (tmps : Array Value) (P : Program) (w : World) :
    (results fn tmps).run P w =
      ((asAddr (tmps.getD p undef)).run P w).andThen fun a w₁ => ((loadVar ty a).run P w₁).andThen fun v w₂ => .ok (.tuple #[v, tmps.getD u undef, tmps.getD x undef]) w₂ := by
  simp only [results, h]
  simp [Sem.run_bind, Result.andThen]
/-- five values lie at the block's start, and may be written -/
def C5 (g : Nat) (c0 c1 c2 c3 c4 : Value) (w : World) : Prop :=
  (w.cell? ⟨g, 0, none⟩ = some c0 ∧ w.cell? ⟨g, 1, none⟩ = some c1 ∧ w.cell? ⟨g, 2, none⟩ = some c2 ∧ w.cell? ⟨g, 3, none⟩ = some c3 ∧ w.cell? ⟨g, 4, none⟩ = some c4) ∧
  (w.frozen? ⟨g, 0, none⟩ = false ∧ w.frozen? ⟨g, 1, none⟩ = false ∧ w.frozen? ⟨g, 2, none⟩ = false ∧ w.frozen? ⟨g, 3, none⟩ = false ∧ w.frozen? ⟨g, 4, none⟩ = false)
section
variable {g B : Nat} {c0 c1 c2 c3 c4 : Value} {w w' : World}
theorem C5.new (c0 c1 c2 c3 c4 : Value) (w : World) (t : TypeId) : C5 w.heap.size c0 c1 c2 c3 c4 (w.alloc (.cells #[c0, c1, c2, c3, c4] t)) := by
  refine ⟨⟨?_, ?_, ?_, ?_, ?_⟩, ⟨?_, ?_, ?_, ?_, ?_⟩⟩
  all_goals first
    | (rw [World.cell?_alloc_mark]; rfl)
    | exact World.frozen?_alloc_at _ _ _ _ rfl
theorem C5.below (f : C5 g c0 c1 c2 c3 c4 w) (hb : Below B w w') (hg : g < B) : C5 g c0 c1 c2 c3 c4 w' := by
  obtain ⟨⟨h0, h1, h2, h3, h4⟩, ⟨f0, f1, f2, f3, f4⟩⟩ := f
  exact ⟨⟨(hb.cell hg).trans h0, (hb.cell hg).trans h1, (hb.cell hg).trans h2, (hb.cell hg).trans h3, (hb.cell hg).trans h4⟩,
    ⟨(hb.frozen hg).trans f0, (hb.frozen hg).trans f1, (hb.frozen hg).trans f2, (hb.frozen hg).trans f3, (hb.frozen hg).trans f4⟩⟩
theorem C5.lt (f : C5 g c0 c1 c2 c3 c4 w) : g < w.heap.size := cell_lt (p := ⟨g, 0, none⟩) f.1.1
theorem C5.next (f : C5 g c0 c1 c2 c3 c4 w) (hb : Below w.heap.size w w') : C5 g c0 c1 c2 c3 c4 w' := f.below hb f.lt
end
theorem Only.setAt {k : Nat} {w w' : World} (h : Only k w w') (i : Nat) (v : Value) : Only k w (w'.setCell ⟨k, i, none⟩ v) :=
  ⟨h.os, h.tape, h.output, by simpa using h.size, fun j hj hk => (Below.heap_setCell w' ⟨k, i, none⟩ v j hk).trans (h.block j hj hk)⟩
theorem only5 (k : Nat) (w : World) (v0 v1 v2 v3 v4 : Value) : Only k w (((((w.setCell ⟨k, 0, none⟩ v0).setCell ⟨k, 1, none⟩ v1).setCell ⟨k, 2, none⟩ v2).setCell ⟨k, 3, none⟩ v3).setCell ⟨k, 4, none⟩ v4) :=
  (((((Only.refl k w).setAt 0 v0).setAt 1 v1).setAt 2 v2).setAt 3 v3).setAt 4 v4
theorem own_le {w : World} {B B' : Nat} {e : TypeId} {size n : Nat} {v : Value} {xs : List Value} (h : w.ownsRow B e size v n xs) (hB : B' ≤ B) : w.ownsRow B' e size v n xs := by
  refine ⟨h.1, ?_⟩
  rcases h.2 with q | ⟨g, cap, cur, hv, hb, r⟩
  · exact .inl q
  · exact .inr ⟨g, cap, cur, hv, Nat.le_trans hB hb, r⟩
theorem below5 {w w1 : World} {g : Nat} (h : Below w.heap.size w w1) (hg : w.heap.size ≤ g) (v0 v1 v2 v3 v4 : Value) : Below w.heap.size w (((((w1.setCell ⟨g, 0, none⟩ v0).setCell ⟨g, 1, none⟩ v1).setCell ⟨g, 2, none⟩ v2).setCell ⟨g, 3, none⟩ v3).setCell ⟨g, 4, none⟩ v4) :=
  ((((h.setCell (p := ⟨g, 0, none⟩) hg v0).setCell (p := ⟨g, 1, none⟩) hg v1).setCell (p := ⟨g, 2, none⟩) hg v2).setCell (p := ⟨g, 3, none⟩) hg v3).setCell (p := ⟨g, 4, none⟩) hg v4
theorem sm_rem {nm : ByteArray} {L : List F} (h : Sm L) : Sm (remL nm L) := sm_filter h
theorem rUnframed_any (a : Option Addr) (cap : Nat) (L : List F) (w : World) (S : Box (Sm L)) (hF : Box (Fs w a L)) :
    Calls Try.prog 6 #[.slice a L.length cap] w fun e w' => ∃ v, e = .returned v ∧ OwnF w' w.heap.size v (unfrL L) ∧ Below w.heap.size w w' := by
  have hl := S.out.1
  have M1 : Box (clN.size ≤ 65536) := box (by decide)
  have M2 : Box (teN.size ≤ 65536) := box (by decide)
  have S2 : Box (Sm (remL clN L)) := box (sm_rem S.out)
  go_enter Try.func6, Try.ntmps6
  go_wp2_with fail
  refine (rRemove_any a cap L clN _ hl S M1 hF).mono ?_; rintro e w1 ⟨v1, rfl, hO1, hb1⟩
  obtain ⟨a1, cap1, rfl, hF1, _⟩ := hO1.fs
  have F1 := box hF1
  have B1 := box hb1
  clear hO1 hF1 hb1
  go_wp2_with fail
  refine (rRemove_any a1 cap1 _ teN _ S2.out.1 S2 M2 F1).mono ?_; rintro e w2 ⟨v2, rfl, hO2, hb2⟩
  have O2 := box (own_le hO2 B1.out.size)
  have B2 := box (B1.out.trans (hb2.mono B1.out.size))
  clear hO2 hb2
  go_wp2
  go_ret
  exact ⟨_, rfl, O2.out, B2.out⟩
end
section
open Go.RowKit
/-- what ParseRequest returns -/
def ReqPost (B : Nat) (o : RQ × Int × Int) (e : Ending) (w' : World) : Prop :=
  ∃ v, e = .returned (.tuple #[.agg #[.string (bs o.1.1), .string (bs o.1.2.1), .int .i64 o.1.2.2.1, v, .string (bs o.1.2.2.2.2)], .int .i64 o.2.1, .int .i64 o.2.2]) ∧ OwnF w' B v o.1.2.2.2.1
theorem sm_head {L : List F} (h : ∀ p ∈ L, p.1.size ≤ 2000 ∧ p.2.size ≤ 2000) (hl : L.length ≤ 64) : Sm L := by
  refine ⟨by omega, fun i hi => ?_⟩
  have := h _ (List.getElem_mem hi)
  omega
end
section
open Go.RowKit
def InI64 (n : Int) : Prop := -9223372036854775808 ≤ n ∧ n ≤ 9223372036854775807
end
section
open Go.RowKit
/-- append of the bytes of a slice of the call's own, nil or not -/
theorem wpList_append_bytes (w : World) {ops : Array Oper} {rest : List Oper} {o : Oper} {a : Act} {Q : Exit → Act → World → Prop} (hgd : o.guard = none) (s x : Operand)
    (ho : o.op = .call { callee := .builtin .append, args := #[s, x], argTypes := #[57, 57] })
    (B : Nat) (v : Value) (l : List UInt8) (hs : a.eval s = v) (hown : Own w B v l)
    (v2 : Value) (l2 : List UInt8) (hx : a.eval x = v2) (hown2 : Own w B v2 l2) (hl : l.length + l2.length < 8589934592) (hB : B ≤ w.heap.size)
    (h : ∀ v' w', Own w' B v' (l ++ l2) → Below B w w' → wpList Try.prog ops Q rest (a.put o.dst v') w') : wpList Try.prog ops Q (o :: rest) a w := by
  obtain ⟨i0, hi0, hz0, hz1, hz2⟩ := info_parts info_u8
  rcases hown2.2 with ⟨rfl, hn⟩ | ⟨g, cap, cur, rfl, hb, hh, hnc, hcm, hcs, htake⟩
  · have e : l2 = [] := by simpa using hn
    subst e
    refine wpList_append_own_none (P := Try.prog) (w := w) hgd s x 57 ho B 5 i0 1 Try.underlying57 hi0 v l.length (l.map bv) hs hown hx ?_
    exact h v w (by simpa using hown) (Below.refl _ _)
  · refine wpList_append_own (P := Try.prog) w hgd s x 57 ho B 5 i0 _ 1 1 Try.underlying57 hi0 hz0 hz1 hz2 rfl (by decide) v l.length (l.map bv) hs hown ⟨g, 0, none⟩ l2.length cap (l2.map bv) hx (by simp) ?_ (bv_oneCell l2) (by unfold maxLen; omega) (by omega) hB ?_
    · intro j u hj
      have ea : (⟨g, 0, none⟩ : Addr).add j = ⟨g, j, none⟩ := by unfold Addr.add; split <;> simp_all
      have hj' := (List.getElem?_eq_some_iff.1 hj).1
      rw [ea, World.ownsRow.cellAt hown2 j (by simpa using hj')]; exact hj
    · intro v' w' h1 h2 _
      exact h v' w' (by simpa [Own] using h1) ((Below.refl _ _).grown h2 hB (fun k hk => Own.block hown k hk))
/-- how far the digits have come -/
def RDec (N m : Nat) (acc : List UInt8) : Prop := DecAt N m acc ∨ (m = 0 ∧ 1 ≤ acc.length ∧ acc.length ≤ 19 ∧ decF 20 N [] = acc)
theorem RDec.next {N m : Nat} {acc : List UInt8} (h : DecAt N m acc) : RDec N (m / 10) (digB m :: acc) := by
  by_cases hm : m / 10 = 0
  · have := h.len
    exact .inr ⟨hm, by simp, by simp; omega, h.fin hm⟩
  · exact .inl (h.step hm)
theorem Own.fresh (w : World) (B : Nat) (d : UInt8) (b : Int) (hb : b = (d.toNat : Int)) (hB : B ≤ w.heap.size) : Own (w.alloc (.cells #[.int .u8 b] 5)) B (.slice (some ⟨w.heap.size, 0, none⟩) 1 1) [d] := by
  subst hb
  exact ⟨rfl, .inr ⟨_, _, _, rfl, hB, heap_alloc_new w _, Nat.le_refl _, by unfold maxLen; omega, rfl, rfl⟩⟩
theorem wrap_div {N m : Nat} {acc : List UInt8} (h : DecAt N m acc) : wrap64 ((m : Int) / 10) = (m : Int) / 10 := by
  have h2 := h.2.1
  have h3 : m ≤ m * 10 ^ acc.length := Nat.le_mul_of_pos_right _ (Nat.pow_pos (by omega))
  exact IntWalk.wrap64_in _ (by omega)
theorem wrap_ndiv {N m : Nat} {acc : List UInt8} (h : DecAt N m acc) : wrap64 (-((m : Int) / 10)) = -((m : Int) / 10) := by
  have h2 := h.2.1
  have h3 : m ≤ m * 10 ^ acc.length := Nat.le_mul_of_pos_right _ (Nat.pow_pos (by omega))
  exact IntWalk.wrap64_in _ (by omega)
theorem RDec.step {N m : Nat} {acc : List UInt8} (h : DecAt N m acc) : Hid (RDec N (m / 10) (digB m :: acc)) := Lib.hid (RDec.next h)
theorem rDecimal_pos (n : Int) (w : World) (h0 : 0 ≤ n) (h1 : InI64 n) :
    Calls Try.prog 14 #[.int .i64 n] w fun e w' => e = .returned (.string ⟨(decL n).toArray⟩) ∧ Below w.heap.size w w' := by
  obtain ⟨N, rfl⟩ := Int.eq_ofNat_of_zero_le h0
  have H1 := Lib.hid h1
  clear h1
  go_enter Try.func14, Try.ntmps14
  go_wp2
  go_loopw [0, 3, 5, 6] (fun n b k _ wr => ∃ (m : Nat) (acc : List UInt8), n = .int .i64 m ∧ k = .int .i64 acc.length ∧ Own wr w.heap.size b acc ∧ Hid (RDec N m acc) ∧ Below w.heap.size w wr) (fun n _ k _ _ => 20 - (intOf k).toNat)
  case atStart => exact ⟨N, [], rfl, rfl, Own.nil _ _, Lib.hid (.inl (DecAt.start (by have := H1.out; unfold InI64 at this; omega))), Below.refl _ _⟩
  case round =>
    obtain ⟨m, acc, rfl, rfl, hO, hR, hbel⟩ := hrel
    rcases hR.out with hD | ⟨rfl, ha1, ha2, ha3⟩
    · have hlen := hD.len
      have HD := Lib.hid hD
      have hw := wrap_div hD
      have HN := RDec.step hD
      clear hD
      by_cases hm : m = 0
      · have hm1 : ((m : Int) != 0) = false := by simp [hm]
        have hm2 : ((acc.length : Int) == 0) = true := by rcases HD.out.2.2 with h | h <;> simp [h] ; omega
        clear hm
        go_wp2_with (at_builtin; refine wpList_append_bytes _ rfl _ _ rfl w.heap.size _ [digB m] rfl (Own.fresh _ _ _ _ (dig_toNat m).symm hbel.size) _ acc rfl (hO.alloc _) (by simp; omega) (by have := hbel.size; simp; omega) ?_; intro v' w1 hO1 hb1)
        go_roundw
        case rel => exact ⟨m / 10, digB m :: acc, by go_num, by go_num, hO1, HN, (hbel.alloc hbel.size _).trans hb1⟩
        case measure => simp [intOf]; omega
      · have hm1 : ((m : Int) != 0) = true := by simp [hm]
        clear hm
        go_wp2_with (at_builtin; refine wpList_append_bytes _ rfl _ _ rfl w.heap.size _ [digB m] rfl (Own.fresh _ _ _ _ (dig_toNat m).symm hbel.size) _ acc rfl (hO.alloc _) (by simp; omega) (by have := hbel.size; simp; omega) ?_; intro v' w1 hO1 hb1)
        go_roundw
        case rel => exact ⟨m / 10, digB m :: acc, by go_num, by go_num, hO1, HN, (hbel.alloc hbel.size _).trans hb1⟩
        case measure => simp [intOf]; omega
    · have hst := hO.str
      have hm2 : ((acc.length : Int) == 0) = false := by simp; intro h; simp [h] at ha1
      have HA := Lib.hid ha3
      clear ha3
      go_wp2
      go_ret
      exact ⟨by rw [decL, if_neg (by omega), show ((N : Int)).natAbs = N from rfl, HA.out]; rfl, hbel⟩
theorem rDecimal_neg (N : Nat) (w : World) (h0 : 1 ≤ N) (h1 : InI64 (-(N : Int))) :
    Calls Try.prog 14 #[.int .i64 (-(N : Int))] w fun e w' => e = .returned (.string ⟨(decL (-(N : Int))).toArray⟩) ∧ Below w.heap.size w w' := by
  have H1 := Lib.hid h1
  clear h1
  go_enter Try.func14, Try.ntmps14
  go_wp2
  go_loopw [0, 3, 5, 6] (fun n b k _ wr => ∃ (m : Nat) (acc : List UInt8), n = .int .i64 (-(m : Int)) ∧ k = .int .i64 acc.length ∧ Own wr w.heap.size b acc ∧ Hid (RDec N m acc) ∧ Below w.heap.size w wr) (fun n _ k _ _ => 20 - (intOf k).toNat)
  case atStart => exact ⟨N, [], rfl, rfl, Own.nil _ _, Lib.hid (.inl (DecAt.start (by have := H1.out; unfold InI64 at this; omega))), Below.refl _ _⟩
  case round =>
    obtain ⟨m, acc, rfl, rfl, hO, hR, hbel⟩ := hrel
    rcases hR.out with hD | ⟨rfl, ha1, ha2, ha3⟩
    · have hlen := hD.len
      have HD := Lib.hid hD
      have hw := wrap_ndiv hD
      have HN := RDec.step hD
      clear hD
      by_cases hm : m = 0
      · have hm1 : (-(m : Int) != 0) = false := by simp [hm]
        have hm2 : ((acc.length : Int) == 0) = true := by rcases HD.out.2.2 with h | h <;> simp [h] ; omega
        have hd : ¬ 0 < (m : Int) % 10 := by omega
        clear hm
        go_wp2_with (at_builtin; refine wpList_append_bytes _ rfl _ _ rfl w.heap.size _ [digB m] rfl (Own.fresh _ _ _ _ (by have := dig_toNat m; omega) hbel.size) _ acc rfl (hO.alloc _) (by simp; omega) (by have := hbel.size; simp; omega) ?_; intro v' w1 hO1 hb1)
        go_roundw
        case rel => exact ⟨m / 10, digB m :: acc, by go_num, by go_num, hO1, HN, (hbel.alloc hbel.size _).trans hb1⟩
        case measure => simp [intOf]; omega
      · have hm1 : (-(m : Int) != 0) = true := by simp [hm]
        clear hm
        by_cases hd : 0 < (m : Int) % 10
        all_goals
          go_wp2_with (at_builtin; refine wpList_append_bytes _ rfl _ _ rfl w.heap.size _ [digB m] rfl (Own.fresh _ _ _ _ (by have := dig_toNat m; omega) hbel.size) _ acc rfl (hO.alloc _) (by simp; omega) (by have := hbel.size; simp; omega) ?_; intro v' w1 hO1 hb1)
          go_roundw
          case rel => exact ⟨m / 10, digB m :: acc, by go_num, by go_num, hO1, HN, (hbel.alloc hbel.size _).trans hb1⟩
          case measure => simp [intOf]; omega
    · have hst := hO.str
      have hm2 : ((acc.length : Int) == 0) = false := by simp; intro h; simp [h] at ha1
      have HA := Lib.hid ha3
      clear ha3
      go_wp2
      go_ret
      exact ⟨by rw [decL, if_pos (by omega), show (-(N : Int)).natAbs = N from by omega, HA.out]; rfl, hbel⟩
theorem rDecimal_any (n : Int) (w : World) (h1 : InI64 n) :
    Calls Try.prog 14 #[.int .i64 n] w fun e w' => e = .returned (.string ⟨(decL n).toArray⟩) ∧ Below w.heap.size w w' := by
  by_cases h : 0 ≤ n
  · exact rDecimal_pos n w h h1
  · obtain ⟨N, rfl⟩ : ∃ N : Nat, n = -(N : Int) := ⟨n.natAbs, by omega⟩
    exact rDecimal_neg N w (by omega) h1
end
end Go.Proofs.Ytjabcfabenobiaa.Asc
