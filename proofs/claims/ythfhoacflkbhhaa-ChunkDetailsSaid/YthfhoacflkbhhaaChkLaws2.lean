/- The walk of the law ChunkDetails. -/
import Derived.Test.YthfhoacflkbhhaaChkLaws
import Derived.Deep.RegionHeld3
set_option linter.unusedVariables false
set_option linter.unusedSimpArgs false
namespace Go.Proofs.Ythfhoacflkbhhaa.Asc
open Go.RowKit

theorem rValid_is {n v : ByteArray} {k : Bool} {w : World} (N : Box (n.size ≤ 65536)) (V : Box (v.size ≤ 65536)) (h : Box (validL n.data.toList v.data.toList = k)) :
    Calls Try.prog 14 #[.agg #[.string n, .string v]] w fun e w' => e = .returned (.bool k) ∧ Below w.heap.size w w' :=
  (rValidField_any n v w N V).mono fun e w' ⟨h1, h2⟩ => ⟨by rw [h1, h.out], h2⟩
theorem idx_hex {b : List UInt8} (h0 : 0 < b.length) (hb : b.length ≤ 1000) : idxF (encodeL b 0) 13 0 = ((hexL b.length).length : Int) ∧ (encodeL b 0).take (hexL b.length).length = hexL b.length := by
  obtain ⟨h1, h2, h3, h4⟩ := hexL_facts h0 3 (Nat.lt_of_lt_of_le (by omega : b.length < 4096) (by decide))
  obtain ⟨g, hg⟩ : ∃ g, b.length = g + 1 := ⟨b.length - 1, by omega⟩
  have hbn : b ≠ [] := by intro e; rw [e] at h0; simp at h0
  have e : ∃ r, encodeL b 0 = hexL b.length ++ 13 :: r := by
    have hmin : b.take (min b.length b.length) = b := by rw [Nat.min_self]; exact List.take_of_length_le (Nat.le_refl _)
    have e1 : encF b.length b.length b = chunkT b ++ encF g b.length (b.drop (min b.length b.length)) := by
      conv => lhs; rw [show encF b.length b.length b = encF (g + 1) b.length b from by rw [← hg]]
      rw [enc_step hbn, hmin]
    unfold encodeL
    rw [if_pos (by omega), e1, List.append_assoc, chunkT_app]
    exact ⟨_, rfl⟩
  obtain ⟨r, hr⟩ := e
  have hno : (13 : UInt8) ∉ hexL b.length := fun hm => by
    have := h1 13 hm
    revert this; decide
  obtain ⟨c1, c2, c3⟩ := cut_app (c := 13) (b := r) hno
  rw [← hr] at c1 c2 c3
  refine ⟨?_, by rw [hr, List.take_left]⟩
  by_cases hi : idxF (encodeL b 0) 13 0 < 0
  · have q := idxF_none hi
    rw [List.drop_zero] at q
    rw [(cut_no q).2.2] at c3; cases c3
  · obtain ⟨o, g1, g2, g3⟩ := idxF_some hi
    rw [List.drop_zero] at g1
    obtain ⟨k0, k1, _, _⟩ := cut_at g1
    rw [k1] at c1
    have := congrArg List.length c1
    rw [List.length_take] at this
    rw [g2]
    have : o = (hexL b.length).length := by omega
    omega
theorem pos_of2 {t : ByteArray} (he : t.toList.isEmpty = false) : 0 < t.size := by
  rcases Nat.eq_zero_or_pos t.size with q | q
  · have : t.data.toList = [] := List.eq_nil_of_length_eq_zero (by simpa using q)
    rw [toList_data, this] at he; cases he
  · exact q
set_option maxHeartbeats 2000000 in
theorem details5_in (b x n v : ByteArray) (zi : Int) (w : World) (hb : b.size ≤ 1000) (hx : x.size ≤ 100) (hn : n.size ≤ 100) (hv : v.size ≤ 100) (h0 : 0 < b.size) (hz0 : 0 ≤ zi) (hz4 : zi ≤ 4) (hbe : b.toList.isEmpty = false) (HX : Box (textL x.data.toList = true)) (HV : Box (validL n.data.toList v.data.toList = true)) :
    Calls Try.prog 7 #[.string b, .string x, .string n, .string v, .int .i64 zi] w fun e w' => e = .returned (.bool true) ∧ Below w.heap.size w w' := by
  have hbl : b.data.toList.length = b.size := by simp
  have hxl : x.data.toList.length = x.size := by simp
  have hnl : n.data.toList.length = n.size := by simp
  have hvl : v.data.toList.length = v.size := by simp
  have HXM : Box (x.size ≤ maxLen) := box (by unfold maxLen; omega)
  have HN : Box (n.size ≤ 65536) := box (by omega)
  have HVS : Box (v.size ≤ 65536) := box (by omega)
  obtain ⟨hi1, hi2⟩ := idx_hex (b := b.data.toList) (by omega) (by omega)
  have hlen := encode_len (b := b.data.toList) (z := 0) (by omega)
  obtain ⟨S, hS⟩ : ∃ S, bs (encodeL b.data.toList 0) = S := ⟨_, rfl⟩
  have hSl : S.data.toList = encodeL b.data.toList 0 := by rw [← hS]; rfl
  have hSz : S.size = (encodeL b.data.toList 0).length := by rw [← hS, bs_size]
  rw [← hSl] at hi1 hi2
  obtain ⟨k, hk⟩ : ∃ k, (hexL b.data.toList.length).length = k := ⟨_, rfl⟩
  rw [hk] at hi1 hi2
  have hk8 := hexL_le (n := b.data.toList.length) (by omega)
  rw [hk] at hk8
  have hkS : k ≤ S.size := by
    have := congrArg List.length hi2
    rw [List.length_take, hk] at this
    have hz : S.data.toList.length = S.size := by simp
    omega
  have HS := box hS
  have HI := box hi1
  have HSM : Box (S.size ≤ maxLen) := box (by unfold maxLen; omega)
  have hki : (k : Int) ≤ (S.size : Int) := by omega
  obtain ⟨H, hH⟩ : ∃ H, S.extract 0 k = H := ⟨_, rfl⟩
  have hHl : H.data.toList = hexL b.data.toList.length := by rw [← hH, ext_bs, List.drop_zero]; exact hi2
  have hHs : H.size ≤ 8 := by
    have : H.data.toList.length = H.size := by simp
    rw [hHl] at this; omega
  obtain ⟨F, hF⟩ : ∃ F, bs (fmtFL n.data.toList v.data.toList) = F := ⟨_, rfl⟩
  have hFs : F.size ≤ 300 := by
    rw [← hF, bs_size]
    unfold fmtFL; split
    · rw [lineN_eq]; unfold lineN; split <;> omega
    · simp
  have HF := box hF
  obtain ⟨T1, ht1⟩ : ∃ T, H ++ ⟨#[59]⟩ = T := ⟨_, rfl⟩
  have hs1 : T1.size = H.size + 1 := by rw [← ht1, ByteArray.size_append]; rfl
  have r1 : ∀ w, (Op.stringOp .add (S.extract 0 k) ⟨#[59]⟩).run Try.prog w = .ok (.string T1) w := fun w => by rw [hH]; rw [← ht1]; exact run_string_add_sum w _ _ (by rw [← ByteArray.size_append, ht1]; omega)
  obtain ⟨T2, ht2⟩ : ∃ T, T1 ++ x = T := ⟨_, rfl⟩
  have hs2 : T2.size = T1.size + x.size := by rw [← ht2, ByteArray.size_append]
  have r2 : ∀ w, (Op.stringOp .add T1 x).run Try.prog w = .ok (.string T2) w := fun w => by rw [← ht2]; exact run_string_add_sum w _ _ (by rw [← ByteArray.size_append, ht2]; omega)
  obtain ⟨T3, ht3⟩ : ∃ T, T2 ++ ⟨#[13, 10]⟩ = T := ⟨_, rfl⟩
  have hs3 : T3.size = T2.size + 2 := by rw [← ht3, ByteArray.size_append]; rfl
  have r3 : ∀ w, (Op.stringOp .add T2 ⟨#[13, 10]⟩).run Try.prog w = .ok (.string T3) w := fun w => by rw [← ht3]; exact run_string_add_sum w _ _ (by rw [← ByteArray.size_append, ht3]; omega)
  obtain ⟨T4, ht4⟩ : ∃ T, T3 ++ b = T := ⟨_, rfl⟩
  have hs4 : T4.size = T3.size + b.size := by rw [← ht4, ByteArray.size_append]
  have r4 : ∀ w, (Op.stringOp .add T3 b).run Try.prog w = .ok (.string T4) w := fun w => by rw [← ht4]; exact run_string_add_sum w _ _ (by rw [← ByteArray.size_append, ht4]; omega)
  obtain ⟨T5, ht5⟩ : ∃ T, T4 ++ ⟨#[13, 10, 48, 48, 59]⟩ = T := ⟨_, rfl⟩
  have hs5 : T5.size = T4.size + 5 := by rw [← ht5, ByteArray.size_append]; rfl
  have r5 : ∀ w, (Op.stringOp .add T4 ⟨#[13, 10, 48, 48, 59]⟩).run Try.prog w = .ok (.string T5) w := fun w => by rw [← ht5]; exact run_string_add_sum w _ _ (by rw [← ByteArray.size_append, ht5]; omega)
  obtain ⟨T6, ht6⟩ : ∃ T, T5 ++ x = T := ⟨_, rfl⟩
  have hs6 : T6.size = T5.size + x.size := by rw [← ht6, ByteArray.size_append]
  have r6 : ∀ w, (Op.stringOp .add T5 x).run Try.prog w = .ok (.string T6) w := fun w => by rw [← ht6]; exact run_string_add_sum w _ _ (by rw [← ByteArray.size_append, ht6]; omega)
  obtain ⟨T7, ht7⟩ : ∃ T, T6 ++ ⟨#[13, 10]⟩ = T := ⟨_, rfl⟩
  have hs7 : T7.size = T6.size + 2 := by rw [← ht7, ByteArray.size_append]; rfl
  have r7 : ∀ w, (Op.stringOp .add T6 ⟨#[13, 10]⟩).run Try.prog w = .ok (.string T7) w := fun w => by rw [← ht7]; exact run_string_add_sum w _ _ (by rw [← ByteArray.size_append, ht7]; omega)
  obtain ⟨T8, ht8⟩ : ∃ T, T7 ++ F = T := ⟨_, rfl⟩
  have hs8 : T8.size = T7.size + F.size := by rw [← ht8, ByteArray.size_append]
  have r8 : ∀ w, (Op.stringOp .add T7 F).run Try.prog w = .ok (.string T8) w := fun w => by rw [← ht8]; exact run_string_add_sum w _ _ (by rw [← ByteArray.size_append, ht8]; omega)
  obtain ⟨T9, ht9⟩ : ∃ T, T8 ++ ⟨#[13, 10, 13, 10]⟩ = T := ⟨_, rfl⟩
  have hs9 : T9.size = T8.size + 4 := by rw [← ht9, ByteArray.size_append]; rfl
  have r9 : ∀ w, (Op.stringOp .add T8 ⟨#[13, 10, 13, 10]⟩).run Try.prog w = .ok (.string T9) w := fun w => by rw [← ht9]; exact run_string_add_sum w _ _ (by rw [← ByteArray.size_append, ht9]; omega)
  have HT9 : Box (T9.data.toList = hexL b.data.toList.length ++ 59 :: x.data.toList ++ 13 :: 10 :: (b.data.toList ++ 13 :: 10 :: ([48, 48] ++ 59 :: x.data.toList ++ 13 :: 10 :: (fmtFL n.data.toList v.data.toList ++ [13, 10, 13, 10])))) := box (by
    rw [← ht9, ← ht8, ← ht7, ← ht6, ← ht5, ← ht4, ← ht3, ← ht2, ← ht1, ← hHl, ← hF]
    simp [ByteArray.data_append, bs])
  have hT9 : T9.size ≤ 3000 := by omega
  clear ht1 hs1 ht2 hs2 ht3 hs3 ht4 hs4 ht5 hs5 ht6 hs6 ht7 hs7 ht8 hs8 ht9 hs9 hi1 hi2 hlen hS hSl hSz hk hH hHl hF
  go_enter Try.func7, Try.ntmps7
  go_wp2_with fail
  refine (rText_is HXM HX).mono ?_; rintro e w1 ⟨rfl, rfl⟩
  go_wp2_with fail
  refine (rValid_is HN HVS HV).mono ?_; rintro e w2 ⟨rfl, hb2⟩
  have B2 := box hb2
  clear hb2
  go_wp2_with fail
  refine (rEncode_any b 0 _ (by omega)).mono ?_; rintro e w3 ⟨rfl, hb3⟩; rw [HS.out]
  have B3 := box (B2.out.trans (hb3.mono B2.out.size))
  clear hb3
  go_wp2_with fail
  refine (rIndex_any S 13 13 0 _ HSM.out (Nat.zero_le _) rfl).mono ?_; rintro e w4 ⟨rfl, rfl⟩; rw [HI.out]
  go_wp2
  go_loopw [13, 14] (fun s i wr => ∃ (j : Nat) (z : ByteArray), (j : Int) ≤ zi ∧ i = .int .i64 j ∧ s = .string z ∧ z.data.toList = List.replicate j 48 ∧ z.size = j ∧ wr = w3) (fun _ i _ => (zi - intOf i).toNat)
  case atStart => exact ⟨0, ⟨#[]⟩, hz0, rfl, rfl, rfl, rfl, rfl⟩
  case round =>
    obtain ⟨j, z, hj, rfl, rfl, hzl, hzs, rfl⟩ := hrel
    have HZ := box hzl
    have HZS := box hzs
    have hz5 : z.size ≤ 4 := by omega
    clear hzl hzs
    by_cases hlt : (j : Int) < zi
    · have HZ2 : Box ((z ++ ⟨#[48]⟩).data.toList = List.replicate (j + 1) 48 ∧ (z ++ ⟨#[48]⟩).size = j + 1) := box (by
        refine ⟨?_, ?_⟩
        · rw [ByteArray.data_append, Array.toList_append, HZ.out, List.replicate_succ']
        · rw [ByteArray.size_append, HZS.out]; rfl)
      go_wp2
      go_roundw
      case rel => exact ⟨j + 1, _, by omega, by go_num, rfl, HZ2.out.1, HZ2.out.2, by first | trivial | rfl⟩
      case measure => simp [intOf]; omega
    · have hjz : (j : Int) = zi := by omega
      have HDT : Box ((z ++ T9).data.toList = detailL (List.replicate j 48) b.data.toList x.data.toList n.data.toList v.data.toList) := box (by
        rw [ByteArray.data_append, Array.toList_append, HZ.out, HT9.out]
        unfold detailL; simp)
      have HD : Box (dcV (decodeL (z ++ T9).data.toList) = .tuple #[.string b, .int .i64 ((z ++ T9).size : Int), .int .i64 0]) := box (by
        have hl : (z ++ T9).data.toList.length = (z ++ T9).size := by simp
        have hr := detail_read (z := List.replicate j 48) (b := b.data.toList) (x := x.data.toList) (n := n.data.toList) (v := v.data.toList) (fun c hc => List.eq_of_mem_replicate hc) (by simp; omega) (by omega) (by omega) HX.out (by omega) HV.out
        rw [← HDT.out, hl] at hr
        rw [hr]; rfl)
      have r10 : ∀ w, (Op.stringOp .add z T9).run Try.prog w = .ok (.string (z ++ T9)) w := fun w => run_string_add_sum w _ _ (by omega)
      have HSZ : Box ((z ++ T9).size ≤ 2000000) := box (by rw [ByteArray.size_append]; omega)
      have hlt2 : ¬ (j : Int) < zi := hlt
      clear hjz
      go_wp2
      go_region_held3 (fun w' => True) (first | trivial) (first | (go_at_call 16; refine (rFormatField_any n v _ HN HVS).mono ?_; rintro e w5 ⟨rfl, hb5⟩; rw [HF.out]; have B5 := box (B3.out.trans (((below_drewN _ _).mono B3.out.size).trans (hb5.mono B3.out.size))); clear hb5))
      clear r1 r2 r3 r4 r5 r6 r7 r8 r9 r10
      go_wp2_with fail
      refine (cDecode_any (z ++ T9) _ HSZ.out).mono ?_; rintro e w6 ⟨rfl, hb6⟩; rw [HD.out]
      have B6 := box (B5.out.trans (hb6.mono B5.out.size))
      clear hb6
      go_wp2_with fail
      refine (awake5_any _).mono ?_; rintro e w7 ⟨rfl, hb7⟩
      have B7 := box (B6.out.trans (hb7.mono B6.out.size))
      clear hb7
      go_wp2
      go_ret
      exact ⟨rfl, B7.out⟩
theorem details5_walk (b x n v : ByteArray) (zi : Int) (w : World) (hb : b.size ≤ maxLen) (hx : x.size ≤ maxLen) (hn : n.size ≤ maxLen) (hv : v.size ≤ maxLen) (hz : (Lit.int .i64 zi).wf = true) :
    Calls Try.prog 7 #[.string b, .string x, .string n, .string v, .int .i64 zi] w fun e w' => e = .returned (.bool true) ∧ Below w.heap.size w w' := by
  unfold maxLen at hb hx hn hv
  clear hz
  by_cases h0 : b.size ≤ 1000
  · have h0i : ¬ (1000 : Int) < (b.size : Int) := by omega
    by_cases h1 : x.size ≤ 100
    · have h1i : ¬ (100 : Int) < (x.size : Int) := by omega
      by_cases h2 : n.size ≤ 100
      · have h2i : ¬ (100 : Int) < (n.size : Int) := by omega
        by_cases h3 : v.size ≤ 100
        · have h3i : ¬ (100 : Int) < (v.size : Int) := by omega
          have HXM : Box (x.size ≤ maxLen) := box (by unfold maxLen; omega)
          have HN : Box (n.size ≤ 65536) := box (by omega)
          have HVS : Box (v.size ≤ 65536) := box (by omega)
          rcases htx : textL x.data.toList with _ | _
          · have HX := box htx
            go_enter Try.func7, Try.ntmps7
            go_wp2_with fail
            refine (rText_is HXM HX).mono ?_; rintro e w1 ⟨rfl, rfl⟩
            go_wp2
            go_ret
            exact ⟨rfl, Below.refl _ _⟩
          · have HX := box htx
            rcases hvl : validL n.data.toList v.data.toList with _ | _
            · have HV := box hvl
              clear htx hvl
              go_enter Try.func7, Try.ntmps7
              go_wp2_with fail
              refine (rText_is HXM HX).mono ?_; rintro e w1 ⟨rfl, rfl⟩
              go_wp2_with fail
              refine (rValid_is HN HVS HV).mono ?_; rintro e w2 ⟨rfl, hb2⟩
              have B2 := box hb2
              clear hb2
              go_wp2
              go_ret
              exact ⟨rfl, B2.out⟩
            · have HV := box hvl
              clear htx hvl
              by_cases hz0 : 0 ≤ zi
              · have hz0i : ¬ zi < 0 := by omega
                by_cases hz4 : zi ≤ 4
                · have hz4i : ¬ 4 < zi := by omega
                  rcases he : b.toList.isEmpty with _ | _
                  · exact details5_in b x n v zi w h0 h1 h2 h3 (pos_of2 he) hz0 hz4 he HX HV
                  · have B0 := trivial
                    go_enter Try.func7, Try.ntmps7
                    go_wp2_with fail
                    refine (rText_is HXM HX).mono ?_; rintro e w1 ⟨rfl, rfl⟩
                    go_wp2_with fail
                    refine (rValid_is HN HVS HV).mono ?_; rintro e w2 ⟨rfl, hb2⟩
                    have B2 := box hb2
                    clear hb2
                    go_wp2
                    go_ret
                    exact ⟨rfl, B2.out⟩
                · have hz4i : 4 < zi := by omega
                  go_enter Try.func7, Try.ntmps7
                  go_wp2_with fail
                  refine (rText_is HXM HX).mono ?_; rintro e w1 ⟨rfl, rfl⟩
                  go_wp2_with fail
                  refine (rValid_is HN HVS HV).mono ?_; rintro e w2 ⟨rfl, hb2⟩
                  have B2 := box hb2
                  clear hb2
                  go_wp2
                  go_ret
                  exact ⟨rfl, B2.out⟩
              · have hz0i : zi < 0 := by omega
                go_enter Try.func7, Try.ntmps7
                go_wp2_with fail
                refine (rText_is HXM HX).mono ?_; rintro e w1 ⟨rfl, rfl⟩
                go_wp2_with fail
                refine (rValid_is HN HVS HV).mono ?_; rintro e w2 ⟨rfl, hb2⟩
                have B2 := box hb2
                clear hb2
                go_wp2
                go_ret
                exact ⟨rfl, B2.out⟩
        · have h3i : (100 : Int) < (v.size : Int) := by omega
          go_enter Try.func7, Try.ntmps7
          go_wp2
          go_ret
          exact ⟨rfl, Below.refl _ _⟩
      · have h2i : (100 : Int) < (n.size : Int) := by omega
        go_enter Try.func7, Try.ntmps7
        go_wp2
        go_ret
        exact ⟨rfl, Below.refl _ _⟩
    · have h1i : (100 : Int) < (x.size : Int) := by omega
      go_enter Try.func7, Try.ntmps7
      go_wp2
      go_ret
      exact ⟨rfl, Below.refl _ _⟩
  · have h0i : (1000 : Int) < (b.size : Int) := by omega
    go_enter Try.func7, Try.ntmps7
    go_wp2
    go_ret
    exact ⟨rfl, Below.refl _ _⟩

end Go.Proofs.Ythfhoacflkbhhaa.Asc
