/- The contract of package date's Parse, over the developers' code of 00e4332. -/
import Derived.Test.YtdebhlbbcfcmlaaDoorDatMine4
import Derived.BigQuiet
set_option linter.unusedVariables false
set_option linter.unusedSimpArgs false
set_option maxRecDepth 100000
namespace Go.Proofs.YtdebhlbbcfcmlaaDoor.Asc
open Go.RowKit

theorem num_q20 {s : ByteArray} {v : Int} {w : World} (hs : Box (s.size ≤ 1000)) (hv : Box ((numV (numL s.data.toList)).1 = v)) :
    Calls Tryd.prog 16 #[.string s] w fun e w' => e = .returned (.int .i64 v) ∧ w' = w :=
  (mNumber_is hs.out hv).mono fun e w' ⟨h1, h2⟩ => ⟨h1, h2.symm⟩
theorem mon_q20 {s : ByteArray} {m : Nat} {w : World} (hW : Tabs w) (hv : Box (monI s.data.toList = m)) :
    Calls Tryd.prog 17 #[.string s] w fun e w' => e = .returned (.int .i64 m) ∧ w' = w :=
  (mMonth_any s w hW).mono fun e w' ⟨h1, h2⟩ => ⟨by rw [h1, hv.out], h2.symm⟩
theorem days_q20 {y m d v : Int} {w : World} (hW : Tabs w) (hv : Box (daysV y m d = v)) :
    Calls Tryd.prog 14 #[.int .i64 y, .int .i64 m, .int .i64 d] w fun e w' => e = .returned (.int .i64 v) ∧ w' = w :=
  (mDays_is hW hv).mono fun e w' ⟨h1, h2⟩ => ⟨h1, h2.symm⟩
theorem ext_num {s p : ByteArray} {a b : Nat} {v : Int} (hp : s.extract a b = p) (hv : nmD s.data.toList a b = v) : Box ((numV (numL p.data.toList)).1 = v) := box (by
  rw [← hp, ext_cut, bs_toList]; exact hv)
theorem ext_size {s p : ByteArray} {a b : Nat} (hp : s.extract a b = p) (h : b ≤ 1000) : Box (p.size ≤ 1000) := box (by
  rw [← hp, ByteArray.size_extract]; omega)
set_option maxHeartbeats 2000000 in
theorem mParse_in (s : ByteArray) (w : World) (hs : s.size = 29) (hW : Tabs w) :
    Calls Tryd.prog 9 #[.string s] w fun e w' => e = .returned (numT (prsD s.data.toList)) ∧ Below w.heap.size w w' := by
  have HT := box hW
  obtain ⟨p12, h12⟩ : ∃ p, s.extract 12 16 = p := ⟨_, rfl⟩
  obtain ⟨p8, h8⟩ : ∃ p, s.extract 8 11 = p := ⟨_, rfl⟩
  obtain ⟨p5, h5⟩ : ∃ p, s.extract 5 7 = p := ⟨_, rfl⟩
  obtain ⟨p17, h17⟩ : ∃ p, s.extract 17 19 = p := ⟨_, rfl⟩
  obtain ⟨p20, h20⟩ : ∃ p, s.extract 20 22 = p := ⟨_, rfl⟩
  obtain ⟨p23, h23⟩ : ∃ p, s.extract 23 25 = p := ⟨_, rfl⟩
  obtain ⟨Y, hY⟩ : ∃ v, nmD s.data.toList 12 16 = v := ⟨_, rfl⟩
  obtain ⟨M, hM⟩ : ∃ v, monI (cutD s.data.toList 8 11) = v := ⟨_, rfl⟩
  obtain ⟨D, hD⟩ : ∃ v, nmD s.data.toList 5 7 = v := ⟨_, rfl⟩
  obtain ⟨H, hH⟩ : ∃ v, nmD s.data.toList 17 19 = v := ⟨_, rfl⟩
  obtain ⟨I, hI⟩ : ∃ v, nmD s.data.toList 20 22 = v := ⟨_, rfl⟩
  obtain ⟨C, hC⟩ : ∃ v, nmD s.data.toList 23 25 = v := ⟨_, rfl⟩
  obtain ⟨V, hV⟩ : ∃ v, daysV Y M D = v := ⟨_, rfl⟩
  have hdy : dayD s.data.toList = V := by unfold dayD; rw [hY, hM, hD]; exact hV
  have htm : timeD s.data.toList = V * 86400 + (H * 3600 + I * 60 + C) := by unfold timeD; rw [hdy, hH, hI, hC]
  have b1 := day_bd s.data.toList
  rw [hdy] at b1
  have b2 := nm_bd s.data.toList 17 19
  rw [hH] at b2
  have b3 := nm_bd s.data.toList 20 22
  rw [hI] at b3
  have b4 := nm_bd s.data.toList 23 25
  rw [hC] at b4
  have N12 := ext_num h12 hY
  have N5 := ext_num h5 hD
  have N17 := ext_num h17 hH
  have N20 := ext_num h20 hI
  have N23 := ext_num h23 hC
  have N8 : Box (monI p8.data.toList = M) := box (by rw [← h8, ext_cut, bs_toList]; exact hM)
  have Z12 := ext_size h12 (by omega)
  have Z5 := ext_size h5 (by omega)
  have Z17 := ext_size h17 (by omega)
  have Z20 := ext_size h20 (by omega)
  have Z23 := ext_size h23 (by omega)
  have E12 := box h12
  have E8 := box h8
  have E5 := box h5
  have E17 := box h17
  have E20 := box h20
  have E23 := box h23
  have NV := box hV
  obtain ⟨P1, hP1⟩ : ∃ v, V * 86400 = v := ⟨_, rfl⟩
  obtain ⟨P2, hP2⟩ : ∃ v, H * 3600 = v := ⟨_, rfl⟩
  obtain ⟨P3, hP3⟩ : ∃ v, I * 60 = v := ⟨_, rfl⟩
  obtain ⟨P4, hP4⟩ : ∃ v, P2 + P3 = v := ⟨_, rfl⟩
  obtain ⟨P5, hP5⟩ : ∃ v, P4 + C = v := ⟨_, rfl⟩
  obtain ⟨P6, hP6⟩ : ∃ v, P1 + P5 = v := ⟨_, rfl⟩
  have W1 : IntKind.i64.wrap P1 = P1 := IntWalk.i64_in _ (by omega)
  have W2 : IntKind.i64.wrap P2 = P2 := IntWalk.i64_in _ (by omega)
  have W3 : IntKind.i64.wrap P3 = P3 := IntWalk.i64_in _ (by omega)
  have W4 : IntKind.i64.wrap P4 = P4 := IntWalk.i64_in _ (by omega)
  have W5 : IntKind.i64.wrap P5 = P5 := IntWalk.i64_in _ (by omega)
  have W6 : IntKind.i64.wrap P6 = P6 := IntWalk.i64_in _ (by omega)
  have W7 : IntKind.i64.wrap P5 = P5 := W5
  have ht6 : timeD s.data.toList = P6 := by rw [htm]; omega
  obtain ⟨x, hx⟩ := fmt_exists P6
  have HX := box hx
  have HP : Box (prsD s.data.toList = if x = s.data.toList then some P6 else none) := box (by
    have := prs_fmt (l := s.data.toList) (x := x) (by simpa using hs) (by rw [ht6]; exact hx)
    rw [ht6] at this; exact this)
  clear hY hM hD hH hI hC hV hdy htm b1 b2 b3 b4 ht6 hx hW h12 h8 h5 h17 h20 h23
  go_enter Tryd.func9, Tryd.ntmps9
  go_wp2_with fail
  go_quiet (first | (go_at_call 16; rw [E12.out]; exact Calls.quiet_of_same (num_q20 Z12 N12)) | (go_at_call 16; rw [E5.out]; exact Calls.quiet_of_same (num_q20 Z5 N5)) | (go_at_call 17; rw [E8.out]; exact Calls.quiet_of_same (mon_q20 (HT.out.below (below_drewN _ _)) N8)) | (go_at_call 14; exact Calls.quiet_of_same (days_q20 (HT.out.below (below_drewN _ _)) NV)))
  have B1 := box (below_drewN w nq)
  generalize w.drewN nq = w1 at B1 ⊢
  clear nq
  go_wp2_with fail
  go_quiet (first | (go_at_call 16; rw [E17.out]; exact Calls.quiet_of_same (num_q20 Z17 N17)) | (go_at_call 16; rw [E20.out]; exact Calls.quiet_of_same (num_q20 Z20 N20)) | (go_at_call 16; rw [E23.out]; exact Calls.quiet_of_same (num_q20 Z23 N23)))
  have B2 := box (B1.out.trans ((below_drewN w1 nq).mono B1.out.size))
  generalize w1.drewN nq = w2 at B2 ⊢
  go_wp2_with fail
  refine (mFmt_any _ _ _ HX.out (HT.out.below B2.out)).mono ?_; rintro e w3 ⟨rfl, hb3⟩
  have B3 := box (B2.out.trans (hb3.mono B2.out.size))
  clear hb3
  by_cases hxl : x = s.data.toList
  · have he : ((bs x).toList == s.toList) = true := by rw [toList_bs, toList_data, beq_iff_eq]; exact hxl
    have HV : Box (prsD s.data.toList = some P6) := box (by rw [HP.out, if_pos hxl])
    clear hxl
    go_wp2
    go_ret2
    exact ⟨by rw [HV.out]; rfl, B3.out⟩
  · have he : ((bs x).toList == s.toList) = false := by rw [toList_bs, toList_data, beq_eq_false_iff_ne]; exact hxl
    have HV : Box (prsD s.data.toList = none) := box (by rw [HP.out, if_neg hxl])
    clear hxl
    go_wp2
    go_ret2
    exact ⟨by rw [HV.out]; rfl, B3.out⟩
theorem mParse20_any (s : ByteArray) (w : World) (hs : s.size ≤ 9223372036854775807) (hW : Tabs w) :
    Calls Tryd.prog 9 #[.string s] w fun e w' => e = .returned (numT (prsD s.data.toList)) ∧ Below w.heap.size w w' := by
  by_cases h : s.size = 29
  · exact mParse_in s w h hW
  · have HV : Box (prsD s.data.toList = none) := box (prs_no fun g => h (by have := g.len; simpa using this))
    have hi : ((s.size : Int) != 29) = true := by rw [bne_iff_ne]; omega
    clear h hW
    go_enter Tryd.func9, Tryd.ntmps9
    go_wp2
    go_ret2
    exact ⟨by rw [HV.out]; rfl, Below.refl _ _⟩

end Go.Proofs.YtdebhlbbcfcmlaaDoor.Asc
