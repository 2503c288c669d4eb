/- The contract of package target's Segments. -/
import Derived.Test.YtilodlmjamaiiaaTarHas
import Derived.WalkMore
set_option linter.unusedVariables false
set_option linter.unusedSimpArgs false
namespace Go.Proofs.Ytilodlmjamaiiaa.Asc
open Go.RowKit

/-- the last of what has been joined goes -/
theorem join_cut {ob : List ByteArray} (h : ∀ p ∈ outL ob, (47 : UInt8) ∉ p) : (joinL (outL ob)).take (lastF 47 (joinL (outL ob)) (joinL (outL ob)).length).toNat = joinL (outL ob.dropLast) := by
  rcases List.eq_nil_or_concat ob with rfl | ⟨b, x, rfl⟩
  · rfl
  · have hx : (47 : UInt8) ∉ x.data.toList := h _ (by simp [outL])
    have e : joinL (outL (b.concat x)) = joinL (outL b) ++ 47 :: x.data.toList := by
      rw [List.concat_eq_append, outL_app, join_app]; simp [outL, joinL]
    have hl := last_app (d := 47) (a := joinL (outL b)) hx x.data.toList.length (Nat.le_refl _)
    rw [e]
    have e2 : (joinL (outL b) ++ 47 :: x.data.toList).length = (joinL (outL b)).length + 1 + x.data.toList.length := by simp; omega
    rw [e2, hl, Int.toNat_natCast, List.take_left, List.concat_eq_append, List.dropLast_concat]
def NoSl (ob : List ByteArray) : Prop := ∀ p ∈ outL ob, (47 : UInt8) ∉ p
theorem NoSl.last {ob : List ByteArray} (h : NoSl ob) : NoSl ob.dropLast := fun p hp => h p (by rw [outL_last] at hp; exact List.dropLast_subset _ hp)
theorem NoSl.more {ob : List ByteArray} (h : NoSl ob) {x : ByteArray} (hx : (47 : UInt8) ∉ x.data.toList) : NoSl (ob ++ [x]) := fun p hp => by
  rw [outL_app] at hp
  rcases List.mem_append.mp hp with q | q
  · exact h p q
  · simp [outL] at q; rw [q]; exact hx
theorem join_more (ob : List ByteArray) (x : ByteArray) : joinL (outL (ob ++ [x])) = joinL (outL ob) ++ [47] ++ x.data.toList := by
  rw [outL_app, join_app]; simp [outL, joinL]
theorem pieces_cut (R : List UInt8) : piecesL R = cut1 47 R :: (if cutB 47 R = true then piecesL (cut2 47 R) else []) := by
  rcases h : cutB 47 R with _ | _
  · have hn : (47 : UInt8) ∉ R := by simpa [cutB] using h
    rw [pieces_one hn, (cut_none hn).1]; rfl
  · rw [if_pos rfl]
    conv => lhs; rw [cut_join h]
    exact pieces_app (cut1_not 47 R)
theorem len_cut (R : List UInt8) : (cut1 47 R).length + (if cutB 47 R = true then (cut2 47 R).length + 1 else 0) = R.length := by
  rcases h : cutB 47 R with _ | _
  · have hn : (47 : UInt8) ∉ R := by simpa [cutB] using h
    rw [(cut_none hn).1]; simp
  · have := congrArg List.length (cut_join h)
    simp at this ⊢; omega
theorem len_cut2 (R : List UInt8) : (cut2 47 R).length ≤ R.length := by
  rcases h : cutB 47 R with _ | _
  · have hn : (47 : UInt8) ∉ R := by simpa [cutB] using h
    rw [(cut_none hn).2]; simp
  · have := congrArg List.length (cut_join h)
    simp at this; omega
theorem Own.below {w w' : World} {B : Nat} {v : Value} {l : List UInt8} (h : Own w B v l) (hb : Below w.heap.size w w') : Own w' B v l := own_below h hb
def bz (s : ByteArray) : Nat := s.size

set_option maxRecDepth 100000 in
set_option maxHeartbeats 3000000 in
theorem tSegments_slash (s : ByteArray) (w : World) (hs : s.size ≤ 60000) (h0 : 0 < s.size) (r0 : ByteArray) (HR0 : Box (s.extract 1 s.size = r0)) (HS : Box (s.data.toList = 47 :: r0.data.toList)) (HP : Box (preB s.data.toList [47] = true)) :
    Calls Try.prog 17 #[.string s] w fun e w' => e = .returned (.string (bs (segL s.data.toList))) ∧ Below w.heap.size w w' := by
  have hr0 : r0.size ≤ 60000 := by rw [← HR0.out, ByteArray.size_extract]; omega
  have h1i : (1 : Int) ≤ (s.size : Int) := by omega
  obtain ⟨i0, hi0, hz0, hz1, hz2⟩ := info_parts info_u8
  have hmk := fun (w : World) => run_make (P := Try.prog) w 47 5 i0 _ Try.underlying47 hi0 hz0 .i64 .i64 0 s.size (by omega) (by omega) (by rw [hz2]; omega) (by omega)
  simp only [hz1, Nat.mul_one, Int.toNat_natCast] at hmk
  clear hz0 hz1 hz2 hi0
  have hO0 : Own (w.alloc (.cells (madeCells #[.int .u8 0] s.size) 5)) w.heap.size (.slice (some ⟨w.heap.size, 0, none⟩) 0 s.size) [] :=
    ⟨rfl, .inr ⟨_, _, _, rfl, Nat.le_refl _, heap_alloc_new w _, Nat.zero_le _, by unfold maxLen; omega, by simp [size_madeCells], rfl⟩⟩
  have HO0 := box hO0
  clear hO0
  go_enter Try.func17, Try.ntmps17
  go_wp2
  go_step3
  go_wp2_with fail
  refine (HasPrefix_is (s := s) (p := ⟨#[47]⟩) (by omega) (by decide) HP).mono ?_; rintro e w1 ⟨rfl, rfl⟩
  go_wp2
  go_step3
  go_wp2
  rw [HR0.out]
  clear hmk
  go_loopw [3, 4, 5] (fun v r m wr => ∃ (ob : List ByteArray) (rest : ByteArray) (b : Bool), r = .string rest ∧ m = .bool b ∧ Own wr w.heap.size v (joinL (outL ob)) ∧ NoSl ob ∧ SegAt r0.data.toList ob rest.data.toList b ∧ Below w.heap.size w wr) (fun _ r m _ => strSize r + isT m)
  case atStart => exact ⟨[], r0, true, rfl, rfl, HO0.out, (fun p hp => by simp [outL] at hp), SegAt.start _, (Below.refl _ _).alloc (Nat.le_refl _) _⟩
  case round =>
    obtain ⟨ob, rest, b, rfl, rfl, hO, hN, hSG, hbel⟩ := hrel
    have O := box hO
    have NS := box hN
    have SG := box hSG
    have BL := box hbel
    have hbs := hbel.size
    clear hO hN hSG hbel
    rcases b with _ | _
    · have HEND : Box (segL s.data.toList = joinL (outL ob)) := box (by rw [HS.out, seg_slash, SG.out.1])
      have hst := O.out.str
      go_wp2
      (try rw [Exit.noGoto_ret])
      go_ret
      exact ⟨ret_str (by rw [HEND.out]; rfl), BL.out⟩
    · have hrs : rest.size ≤ 60000 ∧ (joinL (outL ob)).length ≤ 60000 := by
        have h := SG.out.2
        have hz : r0.data.toList.length = r0.size := by simp
        have hz2 : rest.data.toList.length = rest.size := by simp
        omega
      obtain ⟨hrs, hjl⟩ := hrs
      have RS : Box (rest.size ≤ maxLen) := box (by unfold maxLen; omega)
      obtain ⟨x, hx⟩ : ∃ x, bs (cut1 47 rest.data.toList) = x := ⟨_, rfl⟩
      obtain ⟨r2, hr2⟩ : ∃ r2, bs (cut2 47 rest.data.toList) = r2 := ⟨_, rfl⟩
      obtain ⟨m, hm⟩ : ∃ m, cutB 47 rest.data.toList = m := ⟨_, rfl⟩
      have hxl : x.data.toList = cut1 47 rest.data.toList := by rw [← hx]; rfl
      have hrl : r2.data.toList = cut2 47 rest.data.toList := by rw [← hr2]; rfl
      have HX := box hx
      have HR := box hr2
      have HM := box hm
      have hpc := pieces_cut rest.data.toList
      have hlc := len_cut rest.data.toList
      rw [← hxl, ← hrl, hm] at hpc hlc
      have NX : Box ((47 : UInt8) ∉ x.data.toList) := box (by rw [hxl]; exact cut1_not 47 _)
      have SP := box (seg_step SG.out (x := x.data.toList) (r2 := r2.data.toList) (m := m) hpc hlc)
      have hxs : x.size + (if m = true then r2.size + 1 else 0) = rest.size := by
        have z1 : x.data.toList.length = x.size := by simp
        have z2 : r2.data.toList.length = r2.size := by simp
        have z3 : rest.data.toList.length = rest.size := by simp
        rw [z1, z2, z3] at hlc; exact hlc
      have hr2s : r2.size ≤ rest.size := by
        have z2 : r2.data.toList.length = r2.size := by simp
        have z3 : rest.data.toList.length = rest.size := by simp
        have := len_cut2 rest.data.toList
        rw [← hrl] at this; omega
      clear hx hr2 hm hxl hrl hpc hlc
      rcases hdd : (x.toList == [46, 46]) with _ | _
      · rcases hd1 : (x.toList == [46]) with _ | _
        · have HX1 : Box (x.data.toList ≠ dot2 ∧ x.data.toList ≠ dot1) := box (by rw [toList_data] at hdd hd1; exact ⟨by simpa [dot2] using hdd, by simpa [dot1] using hd1⟩)
          have SQ := box (SP.out.1 x rfl HX1.out.1 HX1.out.2)
          have hxz : x.size ≤ 60000 := by split at hxs <;> omega
          go_wp2_with fail
          refine (Cut_any rest 47 _ RS.out).mono ?_; rintro e w1 ⟨rfl, hb1⟩; unfold cutV
          rw [HX.out, HR.out, HM.out]
          have O1 := box (O.out.below (hb1.mono (Nat.le_refl _)))
          have B1 := box (BL.out.trans (hb1.mono hbs))
          clear hb1
          have hjo : (joinL (outL ob)).length ≤ 60001 := by omega
          have OO := box (O1.out)
          have BB := box (B1.out)
          have hl2 : (joinL (outL ob) ++ [47]).length + (x : ByteArray).size < 8589934592 := by have hz0 : (⟨#[]⟩ : ByteArray).size = 0 := rfl; rw [List.length_append]; simp; omega
          go_wp2_with (first | (at_builtin; refine wpList_append_byte _ rfl (.tmp 31) (.tmp 32) rfl w.heap.size _ (joinL (outL ob)) rfl (Own.alloc OO.out _) _ rfl _ 47 (by decide) (cell_new _ _ _ _ rfl) (by omega) (Nat.le_trans BB.out.size (size_more _ _)) ?_; intro v3 w3 hO3 hb3; have O3 := box hO3; have B3 := box ((BB.out.alloc BB.out.size _).trans hb3); clear hO3 hb3) | (at_builtin; refine wpList_append_sb _ rfl (.tmp 34) (.tmp 35) rfl w.heap.size _ (joinL (outL ob) ++ [47]) rfl O3.out x rfl hl2 B3.out.size ?_; intro v4 w4 hO4 hb4; have O4 := box hO4; have B4 := box (B3.out.trans hb4); clear hO4 hb4))
          go_roundw
          case rel => exact ⟨ob ++ [x], r2, m, rfl, rfl, by rw [join_more]; exact O4.out, NS.out.more NX.out, SQ.out, B4.out⟩
          case measure => cases m <;> simp [strSize, isT] at hxs ⊢ <;> omega
        · have HX1 : Box (x.data.toList = dot1) := box (by rw [toList_data] at hd1; exact eq_of_beq hd1)
          rcases m with _ | _
          · have SQ := box (SP.out.2.2.2.2 HX1.out rfl)
            go_wp2_with fail
            refine (Cut_any rest 47 _ RS.out).mono ?_; rintro e w1 ⟨rfl, hb1⟩; unfold cutV
            rw [HX.out, HR.out, HM.out]
            have O1 := box (O.out.below (hb1.mono (Nat.le_refl _)))
            have B1 := box (BL.out.trans (hb1.mono hbs))
            clear hb1
            have hjo : (joinL (outL ob)).length ≤ 60001 := by omega
            have OO := box (O1.out)
            have BB := box (B1.out)
            have hl2 : (joinL (outL ob) ++ [47]).length + (⟨#[]⟩ : ByteArray).size < 8589934592 := by have hz0 : (⟨#[]⟩ : ByteArray).size = 0 := rfl; rw [List.length_append]; simp; omega
            go_wp2_with (first | (at_builtin; refine wpList_append_byte _ rfl (.tmp 31) (.tmp 32) rfl w.heap.size _ (joinL (outL ob)) rfl (Own.alloc OO.out _) _ rfl _ 47 (by decide) (cell_new _ _ _ _ rfl) (by omega) (Nat.le_trans BB.out.size (size_more _ _)) ?_; intro v3 w3 hO3 hb3; have O3 := box hO3; have B3 := box ((BB.out.alloc BB.out.size _).trans hb3); clear hO3 hb3) | (at_builtin; refine wpList_append_sb _ rfl (.tmp 34) (.tmp 35) rfl w.heap.size _ (joinL (outL ob) ++ [47]) rfl O3.out ⟨#[]⟩ rfl hl2 B3.out.size ?_; intro v4 w4 hO4 hb4; have O4 := box hO4; have B4 := box (B3.out.trans hb4); clear hO4 hb4))
            go_roundw
            case rel => exact ⟨ob ++ [⟨#[]⟩], r2, false, rfl, rfl, by rw [join_more]; exact O4.out, NS.out.more (by simp), SQ.out, B4.out⟩
            case measure => simp [strSize, isT] at hxs ⊢; omega
          · have SQ := box (SP.out.2.2.2.1 HX1.out rfl)
            go_wp2_with fail
            refine (Cut_any rest 47 _ RS.out).mono ?_; rintro e w1 ⟨rfl, hb1⟩; unfold cutV
            rw [HX.out, HR.out, HM.out]
            have O1 := box (O.out.below (hb1.mono (Nat.le_refl _)))
            have B1 := box (BL.out.trans (hb1.mono hbs))
            clear hb1
            go_wp2
            go_roundw
            case rel => exact ⟨ob, r2, true, rfl, rfl, O1.out, NS.out, SQ.out, B1.out⟩
            case measure => simp [strSize, isT] at hxs ⊢; omega
      · have HX1 : Box (x.data.toList = dot2) := box (by rw [toList_data] at hdd; exact eq_of_beq hdd)
        have hd1 : (x.toList == [46]) = false := by rw [toList_data, HX1.out]; rfl
        have JC := box (join_cut NS.out)
        have hjd : (joinL (outL ob.dropLast)).length ≤ 60000 := by rw [outL_last]; exact Nat.le_trans (join_last _) hjl
        rcases m with _ | _
        · have SQ := box (SP.out.2.2.1 HX1.out rfl)
          go_wp2_with fail
          refine (Cut_any rest 47 _ RS.out).mono ?_; rintro e w1 ⟨rfl, hb1⟩; unfold cutV
          rw [HX.out, HR.out, HM.out]
          have O1 := box (O.out.below (hb1.mono (Nat.le_refl _)))
          have B1 := box (BL.out.trans (hb1.mono hbs))
          clear hb1
          go_wp2_with fail
          refine (tWithout_any _ _ _ w.heap.size O1 (by omega)).mono ?_; rintro e w2 ⟨rfl, v2, rfl, hO2⟩
          rw [JC.out] at hO2
          have O2 := box hO2
          clear hO2
          have hjo : (joinL (outL ob.dropLast)).length ≤ 60001 := by omega
          have OO := box (O2.out)
          have BB := box (B1.out)
          have hl2 : (joinL (outL ob.dropLast) ++ [47]).length + (⟨#[]⟩ : ByteArray).size < 8589934592 := by have hz0 : (⟨#[]⟩ : ByteArray).size = 0 := rfl; rw [List.length_append]; simp; omega
          go_wp2_with (first | (at_builtin; refine wpList_append_byte _ rfl (.tmp 31) (.tmp 32) rfl w.heap.size _ (joinL (outL ob.dropLast)) rfl (Own.alloc OO.out _) _ rfl _ 47 (by decide) (cell_new _ _ _ _ rfl) (by omega) (Nat.le_trans BB.out.size (size_more _ _)) ?_; intro v3 w3 hO3 hb3; have O3 := box hO3; have B3 := box ((BB.out.alloc BB.out.size _).trans hb3); clear hO3 hb3) | (at_builtin; refine wpList_append_sb _ rfl (.tmp 34) (.tmp 35) rfl w.heap.size _ (joinL (outL ob.dropLast) ++ [47]) rfl O3.out ⟨#[]⟩ rfl hl2 B3.out.size ?_; intro v4 w4 hO4 hb4; have O4 := box hO4; have B4 := box (B3.out.trans hb4); clear hO4 hb4))
          go_roundw
          case rel => exact ⟨ob.dropLast ++ [⟨#[]⟩], r2, false, rfl, rfl, by rw [join_more]; exact O4.out, NS.out.last.more (by simp), SQ.out, B4.out⟩
          case measure => simp [strSize, isT] at hxs ⊢; omega
        · have SQ := box (SP.out.2.1 HX1.out rfl)
          go_wp2_with fail
          refine (Cut_any rest 47 _ RS.out).mono ?_; rintro e w1 ⟨rfl, hb1⟩; unfold cutV
          rw [HX.out, HR.out, HM.out]
          have O1 := box (O.out.below (hb1.mono (Nat.le_refl _)))
          have B1 := box (BL.out.trans (hb1.mono hbs))
          clear hb1
          go_wp2_with fail
          refine (tWithout_any _ _ _ w.heap.size O1 (by omega)).mono ?_; rintro e w2 ⟨rfl, v2, rfl, hO2⟩
          rw [JC.out] at hO2
          have O2 := box hO2
          clear hO2
          go_wp2
          go_roundw
          case rel => exact ⟨ob.dropLast, r2, true, rfl, rfl, O2.out, NS.out.last, SQ.out, B1.out⟩
          case measure => simp [strSize, isT] at hxs ⊢; omega

theorem tSegments_any (s : ByteArray) (w : World) (hs : s.size ≤ 50000) :
    Calls Try.prog 17 #[.string s] w fun e w' => e = .returned (.string (bs (segL s.data.toList))) ∧ Below w.heap.size w w' := by
  by_cases h : s.data.toList.head? = some 47
  · have h0 : 0 < s.size := by
      rcases Nat.eq_zero_or_pos s.size with q | q
      · have : s.data.toList = [] := List.eq_nil_of_length_eq_zero (by simpa using q)
        rw [this] at h; cases h
      · exact q
    have hd := drop_cons s 0 h0
    rw [List.drop_zero] at hd
    have e0 : s[0] = 47 := by rw [hd] at h; simpa using h
    rw [e0] at hd
    refine tSegments_slash s w (by omega) h0 _ (box rfl) (box ?_) (box ?_)
    · rw [hd, ext_bs, List.take_of_length_le (by simp)]; rfl
    · rw [hd]; rfl
  · have hE := box (seg_other h)
    have HP : Box (preB s.data.toList [47] = false) := box (by
      match q : s.data.toList with
      | [] => rfl
      | c :: r =>
        rw [q] at h
        have h2 : c ≠ 47 := by simpa using h
        have h3 : ((47 : UInt8) == c) = false := by rw [beq_eq_false_iff_ne]; exact fun e => h2 e.symm
        show ((47 : UInt8) == c && List.isPrefixOf [] r) = false
        rw [h3]; rfl)
    go_enter Try.func17, Try.ntmps17
    go_wp2
    go_step3
    go_wp2_with fail
    refine (HasPrefix_is (s := s) (p := ⟨#[47]⟩) (by omega) (by decide) HP).mono ?_; rintro e w1 ⟨rfl, rfl⟩
    go_wp2
    (try rw [Exit.noGoto_ret])
    go_ret
    exact ⟨ret_str (by rw [hE.out]; rfl), Below.refl _ _⟩

end Go.Proofs.Ytilodlmjamaiiaa.Asc
