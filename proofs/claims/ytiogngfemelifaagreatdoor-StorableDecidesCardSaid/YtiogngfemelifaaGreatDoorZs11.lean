/- Merged texts: DatMine4 DatMine5 FrsMine FrsMine2 StoMine CtlRef CtlRef2. -/
import Derived.Test.YtiogngfemelifaaGreatDoorZs03
import Derived.Test.YtiogngfemelifaaGreatDoorZs04
import Derived.Test.YtiogngfemelifaaGreatDoorZs05
import Derived.Test.YtiogngfemelifaaGreatDoorZs06
import Derived.Test.YtiogngfemelifaaGreatDoorZs07
import Derived.Test.YtiogngfemelifaaGreatDoorZs08
import Derived.Test.YtiogngfemelifaaGreatDoorZs09
import Derived.Test.YtiogngfemelifaaGreatDoorZs10
import Derived.BigQuiet
import Derived.Deep.RegionHeld3
import Derived.LoopTactic
set_option linter.unusedVariables false
set_option linter.unusedSimpArgs false
set_option maxRecDepth 100000
namespace Go.Proofs.YtiogngfemelifaaGreatDoor.Asc
section
open Go.RowKit
set_option maxHeartbeats 4000000 in
theorem mFmt_in (T n s y m d : Nat) (w : World) (hT : T = n * 86400 + s) (hs : s < 86400) (hc : IsCal n y m d) (hW : Tabs w) :
    Calls Tryz.prog 55 #[.int .i64 T] w fun e w' => e = .returned (.string (bs (dateL y m d n s))) ∧ Below w.heap.size w w' := by
  have hn := cal_lt hc
  have HC := box hc
  have HT := box hW
  obtain ⟨⟨y1, y2⟩, ⟨m1, m2⟩, d1, d2⟩ := hc.1
  have d3 : d < 100 := by have := (len_le (leapN y) m1 m2).1; omega
  have i1 : ¬ (T : Int) < 0 := by omega
  have i2 : ¬ (253402300799 : Int) < (T : Int) := by omega
  have hq : (T : Int) / 86400 = (n : Int) := by omega
  have hm : (T : Int) % 86400 = (s : Int) := by omega
  obtain ⟨a, ha⟩ : ∃ a, n % 7 = a := ⟨_, rfl⟩
  have ha7 : a < 7 := by omega
  obtain ⟨K, hK⟩ : ∃ K, m - 1 = K := ⟨_, rfl⟩
  have CW := box (hW.wk a ha7)
  have CM : Box (w.cell? ⟨0, K, none⟩ = some (.string (bs (monL m)))) := box (by have := hW.mo K (by omega); rw [show K + 1 = m from by omega] at this; exact this)
  have DY4 : Box (bs (decL (y : Int)) = bs (fourL y)) := box (by rw [dec_fourL (by omega) (by omega)])
  obtain ⟨z1, h1⟩ : ∃ z, wkL a ++ [44, 32] = z := ⟨_, rfl⟩
  obtain ⟨z2, h2⟩ : ∃ z, z1 ++ twoL d = z := ⟨_, rfl⟩
  obtain ⟨z3, h3⟩ : ∃ z, z2 ++ [32] = z := ⟨_, rfl⟩
  obtain ⟨z4, h4⟩ : ∃ z, z3 ++ monL m = z := ⟨_, rfl⟩
  obtain ⟨z5, h5⟩ : ∃ z, z4 ++ [32] = z := ⟨_, rfl⟩
  obtain ⟨z6, h6⟩ : ∃ z, z5 ++ fourL y = z := ⟨_, rfl⟩
  obtain ⟨z7, h7⟩ : ∃ z, z6 ++ [32] = z := ⟨_, rfl⟩
  obtain ⟨z8, h8⟩ : ∃ z, z7 ++ clkL s = z := ⟨_, rfl⟩
  obtain ⟨z9, h9⟩ : ∃ z, z8 ++ [32, 71, 77, 84] = z := ⟨_, rfl⟩
  have HZ : Box (bs z9 = bs (dateL y m d n s)) := box (by
    rw [← h9, ← h8, ← h7, ← h6, ← h5, ← h4, ← h3, ← h2, ← h1]
    unfold dateL
    rw [ha])
  have hz : z9.length = 29 := by rw [bs_inj HZ.out]; exact date_len m1 m2
  have l8 : z8.length ≤ 1000 := by rw [← h9, List.length_append] at hz; omega
  have l7 : z7.length ≤ 1000 := by rw [← h8, List.length_append] at l8; omega
  have l6 : z6.length ≤ 1000 := by rw [← h7, List.length_append] at l7; omega
  have l5 : z5.length ≤ 1000 := by rw [← h6, List.length_append] at l6; omega
  have l4 : z4.length ≤ 1000 := by rw [← h5, List.length_append] at l5; omega
  have l3 : z3.length ≤ 1000 := by rw [← h4, List.length_append] at l4; omega
  have l2 : z2.length ≤ 1000 := by rw [← h3, List.length_append] at l3; omega
  have l1 : z1.length ≤ 1000 := by rw [← h2, List.length_append] at l2; omega
  have R1 : Box (∀ w, (Op.stringOp .add (bs (wkL a)) ⟨#[44, 32]⟩).run Tryz.prog w = .ok (.string (bs z1)) w) := box (add20 (box h1) l1)
  have R2 : Box (∀ w, (Op.stringOp .add (bs z1) (bs (twoL d))).run Tryz.prog w = .ok (.string (bs z2)) w) := box (add20 (box h2) l2)
  have R3 : Box (∀ w, (Op.stringOp .add (bs z2) ⟨#[32]⟩).run Tryz.prog w = .ok (.string (bs z3)) w) := box (add20 (box h3) l3)
  have R4 : Box (∀ w, (Op.stringOp .add (bs z3) (bs (monL m))).run Tryz.prog w = .ok (.string (bs z4)) w) := box (add20 (box h4) l4)
  have R5 : Box (∀ w, (Op.stringOp .add (bs z4) ⟨#[32]⟩).run Tryz.prog w = .ok (.string (bs z5)) w) := box (add20 (box h5) l5)
  have R6 : Box (∀ w, (Op.stringOp .add (bs z5) (bs (fourL y))).run Tryz.prog w = .ok (.string (bs z6)) w) := box (add20 (box h6) l6)
  have R7 : Box (∀ w, (Op.stringOp .add (bs z6) ⟨#[32]⟩).run Tryz.prog w = .ok (.string (bs z7)) w) := box (add20 (box h7) l7)
  have R8 : Box (∀ w, (Op.stringOp .add (bs z7) (bs (clkL s))).run Tryz.prog w = .ok (.string (bs z8)) w) := box (add20 (box h8) l8)
  have R9 : Box (∀ w, (Op.stringOp .add (bs z8) ⟨#[32, 71, 77, 84]⟩).run Tryz.prog w = .ok (.string (bs z9)) w) := box (add20 (box h9) (by omega))
  have FA : Box ((n : Int).tmod 7 = (a : Int) ∧ IntKind.i64.wrap (a : Int) = (a : Int) ∧ (m : Int) - 1 = (K : Int) ∧ IntKind.i64.wrap (K : Int) = (K : Int)) := box ⟨by rw [Int.tmod_eq_emod_of_nonneg (by omega)]; omega, IntWalk.i64_in _ (by omega), by omega, IntWalk.i64_in _ (by omega)⟩
  have FB : Box (((0 : Int) ≤ (a : Int) ∧ (a : Int) < 7) ∧ (0 : Int) ≤ (K : Int) ∧ (K : Int) < 12) := box (by omega)
  clear hT d2 hc h1 h2 h3 h4 h5 h6 h7 h8 h9 l1 l2 l3 l4 l5 l6 l7 l8 hz ha hK ha7 hW
  go_enter Tryz.func55, Tryz.ntmps55
  go_wp2_with fail
  refine (mCal_any n y m d _ HT.out HC.out).mono ?_; rintro e w0 ⟨rfl, rfl⟩
  go_wp2_with fail
  obtain ⟨f1, f2, f3, f4⟩ := FA.out
  obtain ⟨⟨e1, e2⟩, e3, e4⟩ := FB.out
  have r1 := R1.out
  have r2 := R2.out
  have r3 := R3.out
  have r4 := R4.out
  have r5 := R5.out
  have r6 := R6.out
  have r7 := R7.out
  have r8 := R8.out
  have r9 := R9.out
  have S1 := box HT.out.s1
  have S2 := box HT.out.s2
  have B0 := box ((Below.refl w.heap.size w).drew)
  go_region_held3 (fun w' => w'.cell? ⟨1, a, none⟩ = some (.string (bs (wkL a))) ∧ w'.cell? ⟨0, K, none⟩ = some (.string (bs (monL m)))) (first | exact ⟨(B3.out.cell S1.out).trans CW.out, (B3.out.cell S2.out).trans CM.out⟩ | exact ⟨(B2.out.cell S1.out).trans CW.out, (B2.out.cell S2.out).trans CM.out⟩ | exact ⟨(B1.out.cell S1.out).trans CW.out, (B1.out.cell S2.out).trans CM.out⟩ | exact ⟨(B0.out.cell S1.out).trans CW.out, (B0.out.cell S2.out).trans CM.out⟩) (first | (go_at_call 86; refine (mClock_any s _ hs).mono ?_; rintro e w3 ⟨rfl, hb3⟩; have B3 := box (B2.out.trans (hb3.mono B2.out.size))) | (go_at_call 85; refine (Dec20_is ⟨by omega, by omega⟩ DY4).mono ?_; rintro e w2 ⟨rfl, hb2⟩; have B2 := box (B1.out.trans (hb2.mono B1.out.size))) | (go_at_call 84; refine (mTwo_any d _ d3).mono ?_; rintro e w1 ⟨rfl, hb1⟩; have B1 := box (B0.out.trans (hb1.mono B0.out.size))))
  go_wp2
  go_ret
  exact ⟨by rw [← HZ.out]; rfl, B3.out⟩
theorem mFmt_any (t : Int) (x : List UInt8) (w : World) (hx : FmtIs t x) (hW : Tabs w) :
    Calls Tryz.prog 55 #[.int .i64 t] w fun e w' => e = .returned (.string (bs x)) ∧ Below w.heap.size w w' := by
  rcases hx with ⟨n, s, y, m, d, rfl, hs, hc, rfl⟩ | ⟨h, rfl⟩
  · exact mFmt_in _ n s y m d w rfl hs hc hW
  · clear hW
    rcases h with h | h
    · go_enter Tryz.func55, Tryz.ntmps55
      go_wp2
      go_ret
      exact ⟨rfl, Below.refl _ _⟩
    · have h0 : ¬ t < 0 := by omega
      go_enter Tryz.func55, Tryz.ntmps55
      go_wp2
      go_ret
      exact ⟨rfl, Below.refl _ _⟩
end
section
open Go.RowKit
theorem num_q20 {s : ByteArray} {v : Int} {w : World} (hs : Box (s.size ≤ 1000)) (hv : Box ((numV (numL s.data.toList)).1 = v)) :
    Calls Tryz.prog 53 #[.string s] w fun e w' => e = .returned (.int .i64 v) ∧ w' = w :=
  (mNumber_is hs.out hv).mono fun e w' ⟨h1, h2⟩ => ⟨h1, h2.symm⟩
theorem mon_q20 {s : ByteArray} {m : Nat} {w : World} (hW : Tabs w) (hv : Box (monI s.data.toList = m)) :
    Calls Tryz.prog 54 #[.string s] w fun e w' => e = .returned (.int .i64 m) ∧ w' = w :=
  (mMonth_any s w hW).mono fun e w' ⟨h1, h2⟩ => ⟨by rw [h1, hv.out], h2.symm⟩
theorem days_q20 {y m d v : Int} {w : World} (hW : Tabs w) (hv : Box (daysV y m d = v)) :
    Calls Tryz.prog 52 #[.int .i64 y, .int .i64 m, .int .i64 d] w fun e w' => e = .returned (.int .i64 v) ∧ w' = w :=
  (mDays_is hW hv).mono fun e w' ⟨h1, h2⟩ => ⟨h1, h2.symm⟩
theorem ext_num {s p : ByteArray} {a b : Nat} {v : Int} (hp : s.extract a b = p) (hv : nmD s.data.toList a b = v) : Box ((numV (numL p.data.toList)).1 = v) := box (by
  rw [← hp, ext_cut, bs_toList]; exact hv)
theorem ext_size {s p : ByteArray} {a b : Nat} (hp : s.extract a b = p) (h : b ≤ 1000) : Box (p.size ≤ 1000) := box (by
  rw [← hp, ByteArray.size_extract]; omega)
set_option maxHeartbeats 2000000 in
theorem mParse_in (s : ByteArray) (w : World) (hs : s.size = 29) (hW : Tabs w) :
    Calls Tryz.prog 29 #[.string s] w fun e w' => e = .returned (numT (prsD s.data.toList)) ∧ Below w.heap.size w w' := by
  have HT := box hW
  obtain ⟨p12, h12⟩ : ∃ p, s.extract 12 16 = p := ⟨_, rfl⟩
  obtain ⟨p8, h8⟩ : ∃ p, s.extract 8 11 = p := ⟨_, rfl⟩
  obtain ⟨p5, h5⟩ : ∃ p, s.extract 5 7 = p := ⟨_, rfl⟩
  obtain ⟨p17, h17⟩ : ∃ p, s.extract 17 19 = p := ⟨_, rfl⟩
  obtain ⟨p20, h20⟩ : ∃ p, s.extract 20 22 = p := ⟨_, rfl⟩
  obtain ⟨p23, h23⟩ : ∃ p, s.extract 23 25 = p := ⟨_, rfl⟩
  obtain ⟨Y, hY⟩ : ∃ v, nmD s.data.toList 12 16 = v := ⟨_, rfl⟩
  obtain ⟨M, hM⟩ : ∃ v, monI (cutD s.data.toList 8 11) = v := ⟨_, rfl⟩
  obtain ⟨D, hD⟩ : ∃ v, nmD s.data.toList 5 7 = v := ⟨_, rfl⟩
  obtain ⟨H, hH⟩ : ∃ v, nmD s.data.toList 17 19 = v := ⟨_, rfl⟩
  obtain ⟨I, hI⟩ : ∃ v, nmD s.data.toList 20 22 = v := ⟨_, rfl⟩
  obtain ⟨C, hC⟩ : ∃ v, nmD s.data.toList 23 25 = v := ⟨_, rfl⟩
  obtain ⟨V, hV⟩ : ∃ v, daysV Y M D = v := ⟨_, rfl⟩
  have hdy : dayD s.data.toList = V := by unfold dayD; rw [hY, hM, hD]; exact hV
  have htm : timeD s.data.toList = V * 86400 + (H * 3600 + I * 60 + C) := by unfold timeD; rw [hdy, hH, hI, hC]
  have b1 := day_bd s.data.toList
  rw [hdy] at b1
  have b2 := nm_bd s.data.toList 17 19
  rw [hH] at b2
  have b3 := nm_bd s.data.toList 20 22
  rw [hI] at b3
  have b4 := nm_bd s.data.toList 23 25
  rw [hC] at b4
  have N12 := ext_num h12 hY
  have N5 := ext_num h5 hD
  have N17 := ext_num h17 hH
  have N20 := ext_num h20 hI
  have N23 := ext_num h23 hC
  have N8 : Box (monI p8.data.toList = M) := box (by rw [← h8, ext_cut, bs_toList]; exact hM)
  have Z12 := ext_size h12 (by omega)
  have Z5 := ext_size h5 (by omega)
  have Z17 := ext_size h17 (by omega)
  have Z20 := ext_size h20 (by omega)
  have Z23 := ext_size h23 (by omega)
  have E12 := box h12
  have E8 := box h8
  have E5 := box h5
  have E17 := box h17
  have E20 := box h20
  have E23 := box h23
  have NV := box hV
  obtain ⟨P1, hP1⟩ : ∃ v, V * 86400 = v := ⟨_, rfl⟩
  obtain ⟨P2, hP2⟩ : ∃ v, H * 3600 = v := ⟨_, rfl⟩
  obtain ⟨P3, hP3⟩ : ∃ v, I * 60 = v := ⟨_, rfl⟩
  obtain ⟨P4, hP4⟩ : ∃ v, P2 + P3 = v := ⟨_, rfl⟩
  obtain ⟨P5, hP5⟩ : ∃ v, P4 + C = v := ⟨_, rfl⟩
  obtain ⟨P6, hP6⟩ : ∃ v, P1 + P5 = v := ⟨_, rfl⟩
  have W1 : IntKind.i64.wrap P1 = P1 := IntWalk.i64_in _ (by omega)
  have W2 : IntKind.i64.wrap P2 = P2 := IntWalk.i64_in _ (by omega)
  have W3 : IntKind.i64.wrap P3 = P3 := IntWalk.i64_in _ (by omega)
  have W4 : IntKind.i64.wrap P4 = P4 := IntWalk.i64_in _ (by omega)
  have W5 : IntKind.i64.wrap P5 = P5 := IntWalk.i64_in _ (by omega)
  have W6 : IntKind.i64.wrap P6 = P6 := IntWalk.i64_in _ (by omega)
  have W7 : IntKind.i64.wrap P5 = P5 := W5
  have ht6 : timeD s.data.toList = P6 := by rw [htm]; omega
  obtain ⟨x, hx⟩ := fmt_exists P6
  have HX := box hx
  have HP : Box (prsD s.data.toList = if x = s.data.toList then some P6 else none) := box (by
    have := prs_fmt (l := s.data.toList) (x := x) (by simpa using hs) (by rw [ht6]; exact hx)
    rw [ht6] at this; exact this)
  clear hY hM hD hH hI hC hV hdy htm b1 b2 b3 b4 ht6 hx hW h12 h8 h5 h17 h20 h23
  go_enter Tryz.func29, Tryz.ntmps29
  go_wp2_with fail
  go_quiet (first | (go_at_call 53; rw [E12.out]; exact Calls.quiet_of_same (num_q20 Z12 N12)) | (go_at_call 53; rw [E5.out]; exact Calls.quiet_of_same (num_q20 Z5 N5)) | (go_at_call 54; rw [E8.out]; exact Calls.quiet_of_same (mon_q20 (HT.out.below (below_drewN _ _)) N8)) | (go_at_call 52; exact Calls.quiet_of_same (days_q20 (HT.out.below (below_drewN _ _)) NV)))
  have B1 := box (below_drewN w nq)
  generalize w.drewN nq = w1 at B1 ⊢
  clear nq
  go_wp2_with fail
  go_quiet (first | (go_at_call 53; rw [E17.out]; exact Calls.quiet_of_same (num_q20 Z17 N17)) | (go_at_call 53; rw [E20.out]; exact Calls.quiet_of_same (num_q20 Z20 N20)) | (go_at_call 53; rw [E23.out]; exact Calls.quiet_of_same (num_q20 Z23 N23)))
  have B2 := box (B1.out.trans ((below_drewN w1 nq).mono B1.out.size))
  generalize w1.drewN nq = w2 at B2 ⊢
  go_wp2_with fail
  refine (mFmt_any _ _ _ HX.out (HT.out.below B2.out)).mono ?_; rintro e w3 ⟨rfl, hb3⟩
  have B3 := box (B2.out.trans (hb3.mono B2.out.size))
  clear hb3
  by_cases hxl : x = s.data.toList
  · have he : ((bs x).toList == s.toList) = true := by rw [toList_bs, toList_data, beq_iff_eq]; exact hxl
    have HV : Box (prsD s.data.toList = some P6) := box (by rw [HP.out, if_pos hxl])
    clear hxl
    go_wp2
    go_ret2
    exact ⟨by rw [HV.out]; rfl, B3.out⟩
  · have he : ((bs x).toList == s.toList) = false := by rw [toList_bs, toList_data, beq_eq_false_iff_ne]; exact hxl
    have HV : Box (prsD s.data.toList = none) := box (by rw [HP.out, if_neg hxl])
    clear hxl
    go_wp2
    go_ret2
    exact ⟨by rw [HV.out]; rfl, B3.out⟩
theorem mParse20_any (s : ByteArray) (w : World) (hs : s.size ≤ 9223372036854775807) (hW : Tabs w) :
    Calls Tryz.prog 29 #[.string s] w fun e w' => e = .returned (numT (prsD s.data.toList)) ∧ Below w.heap.size w w' := by
  by_cases h : s.size = 29
  · exact mParse_in s w h hW
  · have HV : Box (prsD s.data.toList = none) := box (prs_no fun g => h (by have := g.len; simpa using this))
    have hi : ((s.size : Int) != 29) = true := by rw [bne_iff_ne]; omega
    clear h hW
    go_enter Tryz.func29, Tryz.ntmps29
    go_wp2
    go_ret2
    exact ⟨by rw [HV.out]; rfl, Below.refl _ _⟩
end
section
open Go.RowKit
theorem firstV_is (nm : ByteArray) (L : List F) : firstV nm L = .tuple #[.string (firB nm L), .bool (firQ nm L)] := by
  unfold firstV firB firQ
  cases getL nm L <;> rfl
theorem mFirst23_is {a : Option Addr} {cap : Nat} {L : List F} {nm x : ByteArray} {q : Bool} {w : World} (S : Box (Sm L)) (M : Box (nm.size ≤ 65536)) (hF : Box (Fs w a L)) (hx : Box (firB nm L = x)) (hq : Box (firQ nm L = q)) :
    Calls Tryz.prog 28 #[.slice a L.length cap, .string nm] w fun e w' => e = .returned (.tuple #[.string x, .bool q]) ∧ Below w.heap.size w w' :=
  (First_any a cap L nm w S.out.1 S M hF).mono fun e w' ⟨h1, h2⟩ => ⟨by rw [h1, firstV_is, hx.out, hq.out], h2⟩
theorem mPrs23_is {s : ByteArray} {a : Int} {b : Bool} {w : World} (hs : s.size ≤ 65000) (hW : Tabs w) (h : Box (numT (prsD s.data.toList) = .tuple #[.int .i64 a, .bool b])) :
    Calls Tryz.prog 29 #[.string s] w fun e w' => e = .returned (.tuple #[.int .i64 a, .bool b]) ∧ Below w.heap.size w w' :=
  (mParse20_any s w (by omega) hW).mono fun e w' ⟨h1, h2⟩ => ⟨by rw [h1, h.out], h2⟩
/-- the first date of a name -/
theorem mFdt_any (a : Option Addr) (cap : Nat) (L : List F) (nm : ByteArray) (w : World) (S : Box (Sm L)) (M : Box (nm.size ≤ 65536)) (hv : Box (∀ x ∈ getL nm L, x.size ≤ 65000)) (hF : Box (Fs w a L)) (hW : Box (Tabs w)) :
    Calls Tryz.prog 70 #[.slice a L.length cap, .string nm] w fun e w' => e = .returned (numT (fdtD nm L)) ∧ Below w.heap.size w w' := by
  obtain ⟨x, hx⟩ : ∃ x, firB nm L = x := ⟨_, rfl⟩
  obtain ⟨q, hq⟩ : ∃ q, firQ nm L = q := ⟨_, rfl⟩
  have hxs : x.size ≤ 65000 := by rw [← hx]; exact fir_small hv.out
  obtain ⟨b, c, hn⟩ : ∃ b c, numT (prsD x.data.toList) = .tuple #[.int .i64 b, .bool c] := ⟨_, _, rfl⟩
  have HX := box hx
  have HQ := box hq
  have HN := box hn
  have HZ : Box (numT (fdtD nm L) = .tuple #[.int .i64 b, .bool c]) := box (by unfold fdtD; rw [hx, hn])
  clear hx hq hn
  go_enter Tryz.func70, Tryz.ntmps70
  go_wp2_with fail
  refine (mFirst23_is S M hF HX HQ).mono ?_; rintro e w1 ⟨rfl, hb1⟩
  have B1 := box hb1
  have W1 := box (hW.out.below hb1)
  clear hb1
  go_wp2_with fail
  refine (mPrs23_is hxs W1.out HN).mono ?_; rintro e w2 ⟨rfl, hb2⟩
  have B2 := box (B1.out.trans (hb2.mono B1.out.size))
  clear hb2
  go_wp2
  go_ret2
  exact ⟨by rw [HZ.out]; rfl, B2.out⟩
/-- a sum as a duration -/
theorem mSat_any (a b : Int) (w : World) (h : -9223372036854775808 ≤ a + b ∧ a + b ≤ 9223372036854775807) :
    Calls Tryz.prog 71 #[.int .i64 a, .int .i64 b] w fun e w' => e = .returned (.int .i64 (satS (a + b))) ∧ w = w' := by
  go_enter Tryz.func71, Tryz.ntmps71
  go_wp2
  all_goals (go_ret; exact ⟨ret_int (by unfold satS; split <;> (try split) <;> omega), rfl⟩)
end
section
open Go.RowKit
theorem mResp23_is {a : Option Addr} {cap : Nat} {L : List F} {c : CT} {w : World} (S : Box (Sm L)) (hv : Box (∀ x ∈ getL ccN L, x.size ≤ 65000)) (hF : Box (Fs w a L)) (HC : Box (respC (allL ccN L) = c)) :
    Calls Tryz.prog 17 #[.slice a L.length cap] w fun e w' => e = .returned (.agg #[.bool c.ns, .bool c.nc, .bool c.mr, .bool c.pr, .bool c.pv, .bool c.pb, .bool c.oc, .int .i64 c.ma, .int .i64 c.sm, .int .i64 c.mf, .int .i64 c.ms]) ∧ Below w.heap.size w w' :=
  mResp_any a cap L w S hv hF c HC
theorem mFdt_is {a : Option Addr} {cap : Nat} {L : List F} {nm : ByteArray} {x : Int} {b : Bool} {w : World} (S : Box (Sm L)) (M : Box (nm.size ≤ 65536)) (hv : Box (∀ x ∈ getL nm L, x.size ≤ 65000)) (hF : Box (Fs w a L)) (hW : Box (Tabs w)) (H : Box (numT (fdtD nm L) = .tuple #[.int .i64 x, .bool b])) :
    Calls Tryz.prog 70 #[.slice a L.length cap, .string nm] w fun e w' => e = .returned (.tuple #[.int .i64 x, .bool b]) ∧ Below w.heap.size w w' :=
  (mFdt_any a cap L nm w S M hv hF hW).mono fun e w' ⟨h1, h2⟩ => ⟨by rw [h1, H.out], h2⟩
theorem mLife1 (a : Option Addr) (cap : Nat) (L : List F) (v : Int) (w : World) (S : Box (Sm L)) (hv : Box (∀ nm, ∀ x ∈ getL nm L, x.size ≤ 65000)) (hF : Box (Fs w a L)) (hW : Box (Tabs w)) (c : CT) (HC : Box (respC (allL ccN L) = c)) (hs : -1 ≤ c.sm) (h1 : 0 ≤ c.sm) (HV : Box (c.sm = v)) :
    Calls Tryz.prog 42 #[.slice a L.length cap] w fun e w' => e = .returned (.int .i64 v) ∧ Below w.heap.size w w' := by
  have i1 : (c.sm != -1) = true := by rw [bne_iff_ne]; omega
  clear hs h1
  go_enter Tryz.func42, Tryz.ntmps42
  go_wp2_with fail
  refine (mResp23_is S (box (hv.out ccN)) hF HC).mono ?_; rintro e w1 ⟨rfl, hb1⟩
  have B1 := box ((hb1).alloc hb1.size (.cells (ctA c) 36))
  clear hb1
  go_wp2
  go_ret
  exact ⟨ret_int HV.out, B1.out⟩
theorem mLife2 (a : Option Addr) (cap : Nat) (L : List F) (v : Int) (w : World) (S : Box (Sm L)) (hv : Box (∀ nm, ∀ x ∈ getL nm L, x.size ≤ 65000)) (hF : Box (Fs w a L)) (hW : Box (Tabs w)) (c : CT) (HC : Box (respC (allL ccN L) = c)) (hs : -1 ≤ c.sm) (hm : -1 ≤ c.ma) (h1 : ¬ 0 ≤ c.sm) (h2 : 0 ≤ c.ma) (HV : Box (c.ma = v)) :
    Calls Tryz.prog 42 #[.slice a L.length cap] w fun e w' => e = .returned (.int .i64 v) ∧ Below w.heap.size w w' := by
  have i1 : (c.sm != -1) = false := by rw [bne_eq_false_iff_eq]; omega
  have i2 : (c.ma != -1) = true := by rw [bne_iff_ne]; omega
  clear hs hm h1 h2
  go_enter Tryz.func42, Tryz.ntmps42
  go_wp2_with fail
  refine (mResp23_is S (box (hv.out ccN)) hF HC).mono ?_; rintro e w1 ⟨rfl, hb1⟩
  have B1 := box ((hb1).alloc hb1.size (.cells (ctA c) 36))
  clear hb1
  go_wp2
  go_ret
  exact ⟨ret_int HV.out, B1.out⟩
theorem mLife3 (a : Option Addr) (cap : Nat) (L : List F) (v : Int) (w : World) (S : Box (Sm L)) (hv : Box (∀ nm, ∀ x ∈ getL nm L, x.size ≤ 65000)) (hF : Box (Fs w a L)) (hW : Box (Tabs w)) (c : CT) (HC : Box (respC (allL ccN L) = c)) (hs : -1 ≤ c.sm) (hm : -1 ≤ c.ma) (h1 : ¬ 0 ≤ c.sm) (h2 : ¬ 0 ≤ c.ma) {x y : Int} {bx b : Bool} (HexN : Box (numT (fdtD exN L) = .tuple #[.int .i64 x, .bool bx])) (HdaN : Box (numT (fdtD daN L) = .tuple #[.int .i64 y, .bool b])) (hb : (bx && b) = false) (HV : Box (v = 0)) :
    Calls Tryz.prog 42 #[.slice a L.length cap] w fun e w' => e = .returned (.int .i64 v) ∧ Below w.heap.size w w' := by
  have i1 : (c.sm != -1) = false := by rw [bne_eq_false_iff_eq]; omega
  have i2 : (c.ma != -1) = false := by rw [bne_eq_false_iff_eq]; omega
  clear hs hm h1 h2
  go_enter Tryz.func42, Tryz.ntmps42
  go_wp2_with fail
  refine (mResp23_is S (box (hv.out ccN)) hF HC).mono ?_; rintro e w1 ⟨rfl, hb1⟩
  have B1 := box ((hb1).alloc hb1.size (.cells (ctA c) 36))
  have F1 := box (hF.out.below B1.out)
  have W1 := box (hW.out.below B1.out)
  clear hb1
  go_wp2_with fail
  refine (mFdt_is S (box (by decide)) (box (hv.out exN)) F1 W1 HexN).mono ?_; rintro e w2 ⟨rfl, hb2⟩
  have B2 := box (B1.out.trans (hb2.mono B1.out.size))
  have F2 := box (F1.out.below hb2)
  have W2 := box (W1.out.below hb2)
  clear hb2
  go_wp2_with fail
  refine (mFdt_is S (box (by decide)) (box (hv.out daN)) F2 W2 HdaN).mono ?_; rintro e w3 ⟨rfl, hb3⟩
  have B3 := box (B2.out.trans (hb3.mono B2.out.size))
  have F3 := box (F2.out.below hb3)
  have W3 := box (W2.out.below hb3)
  clear hb3
  have B4 := B3
  cases bx <;> cases b
  all_goals first
    | (exact absurd hb (by decide))
    | (go_wp2
       go_ret
       exact ⟨ret_int HV.out.symm, B4.out⟩)
theorem mLife4 (a : Option Addr) (cap : Nat) (L : List F) (v : Int) (w : World) (S : Box (Sm L)) (hv : Box (∀ nm, ∀ x ∈ getL nm L, x.size ≤ 65000)) (hF : Box (Fs w a L)) (hW : Box (Tabs w)) (c : CT) (HC : Box (respC (allL ccN L) = c)) (hs : -1 ≤ c.sm) (hm : -1 ≤ c.ma) (h1 : ¬ 0 ≤ c.sm) (h2 : ¬ 0 ≤ c.ma) {x y : Int} (HexN : Box (numT (fdtD exN L) = .tuple #[.int .i64 x, .bool true])) (HdaN : Box (numT (fdtD daN L) = .tuple #[.int .i64 y, .bool true])) (hx : 0 ≤ x ∧ x ≤ 253402300799) (hy : 0 ≤ y ∧ y ≤ 253402300799) (HV : Box (satS (x + -y) = v)) :
    Calls Tryz.prog 42 #[.slice a L.length cap] w fun e w' => e = .returned (.int .i64 v) ∧ Below w.heap.size w w' := by
  obtain ⟨hx0, hx1⟩ := hx
  obtain ⟨hy0, hy1⟩ := hy
  have i1 : (c.sm != -1) = false := by rw [bne_eq_false_iff_eq]; omega
  have i2 : (c.ma != -1) = false := by rw [bne_eq_false_iff_eq]; omega
  clear hs hm h1 h2
  go_enter Tryz.func42, Tryz.ntmps42
  go_wp2_with fail
  refine (mResp23_is S (box (hv.out ccN)) hF HC).mono ?_; rintro e w1 ⟨rfl, hb1⟩
  have B1 := box ((hb1).alloc hb1.size (.cells (ctA c) 36))
  have F1 := box (hF.out.below B1.out)
  have W1 := box (hW.out.below B1.out)
  clear hb1
  go_wp2_with fail
  refine (mFdt_is S (box (by decide)) (box (hv.out exN)) F1 W1 HexN).mono ?_; rintro e w2 ⟨rfl, hb2⟩
  have B2 := box (B1.out.trans (hb2.mono B1.out.size))
  have F2 := box (F1.out.below hb2)
  have W2 := box (W1.out.below hb2)
  clear hb2
  go_wp2_with fail
  refine (mFdt_is S (box (by decide)) (box (hv.out daN)) F2 W2 HdaN).mono ?_; rintro e w3 ⟨rfl, hb3⟩
  have B3 := box (B2.out.trans (hb3.mono B2.out.size))
  have F3 := box (F2.out.below hb3)
  have W3 := box (W2.out.below hb3)
  clear hb3
  have hng : IntKind.i64.wrap (-y) = -y := IntWalk.i64_in _ (by omega)
  go_wp2_with fail
  refine (mSat_any _ _ _ (by omega)).mono ?_; rintro e w4 ⟨rfl, rfl⟩
  go_wp2
  go_ret
  exact ⟨ret_int HV.out, B3.out⟩
theorem mLife_any (a : Option Addr) (cap : Nat) (L : List F) (v : Int) (w : World) (S : Box (Sm L)) (hv : Box (∀ nm, ∀ x ∈ getL nm L, x.size ≤ 65000)) (hF : Box (Fs w a L)) (hW : Box (Tabs w)) (HV : Box (lifeV (respC (allL ccN L)) (fdtD exN L) (fdtD daN L) = v)) :
    Calls Tryz.prog 42 #[.slice a L.length cap] w fun e w' => e = .returned (.int .i64 v) ∧ Below w.heap.size w w' := by
  obtain ⟨c, hc⟩ : ∃ c, respC (allL ccN L) = c := ⟨_, rfl⟩
  have hg := resp_ge (allL ccN L)
  rw [hc] at hg HV
  unfold lifeV at HV
  by_cases h1 : 0 ≤ c.sm
  · rw [if_pos h1] at HV
    exact mLife1 a cap L v w S hv hF hW c (box hc) hg.1 h1 HV
  · rw [if_neg h1] at HV
    by_cases h2 : 0 ≤ c.ma
    · rw [if_pos h2] at HV
      exact mLife2 a cap L v w S hv hF hW c (box hc) hg.1 hg.2 h1 h2 HV
    · rw [if_neg h2] at HV
      rcases hx : fdtD exN L with _ | x
      · rw [hx] at HV
        exact mLife3 a cap L v w S hv hF hW c (box hc) hg.1 hg.2 h1 h2 (box (by rw [hx]; rfl)) (box rfl) rfl (box HV.out.symm)
      · rcases hy : fdtD daN L with _ | y
        · rw [hx, hy] at HV
          exact mLife3 a cap L v w S hv hF hW c (box hc) hg.1 hg.2 h1 h2 (box (by rw [hx]; rfl)) (box (by rw [hy]; rfl)) rfl (box HV.out.symm)
        · rw [hx, hy] at HV
          exact mLife4 a cap L v w S hv hF hW c (box hc) hg.1 hg.2 h1 h2 (box (by rw [hx]; rfl)) (box (by rw [hy]; rfl)) (fdt_bd hx) (fdt_bd hy) (box (by rw [← Int.sub_eq_add_neg]; exact HV.out))
end
section
open Go.RowKit
theorem tg_some (o : Option ET) : ∃ b t, tgV o = .tuple #[.agg #[.bool b, .string t], .bool o.isSome] := by
  cases o with
  | none => exact ⟨_, _, rfl⟩
  | some e => exact ⟨_, _, rfl⟩
theorem num_some (o : Option Int) : ∃ v, numT o = .tuple #[.int .i64 v, .bool o.isSome] := by
  cases o with
  | none => exact ⟨_, rfl⟩
  | some e => exact ⟨_, rfl⟩
theorem mOf24_is {a : Option Addr} {cap : Nat} {L : List F} {b q : Bool} {t : ByteArray} {w : World} (S : Box (Sm L)) (hv : Box (∀ nm, ∀ x ∈ getL nm L, x.size ≤ 65000)) (hF : Box (Fs w a L)) (h : Box (tgV (ofM21 L) = .tuple #[.agg #[.bool b, .string t], .bool q])) :
    Calls Tryz.prog 27 #[.slice a L.length cap] w fun e w' => e = .returned (.tuple #[.agg #[.bool b, .string t], .bool q]) ∧ Below w.heap.size w w' :=
  (mOfE_any a cap L w S (box (hv.out etN)) hF).mono fun e w' ⟨h1, h2⟩ => ⟨by rw [h1, h.out], h2⟩
theorem mVal_any (a : Option Addr) (cap : Nat) (L : List F) (v : Bool) (w : World) (S : Box (Sm L)) (hv : Box (∀ nm, ∀ x ∈ getL nm L, x.size ≤ 65000)) (hF : Box (Fs w a L)) (hW : Box (Tabs w)) (HV : Box (valT L = v)) :
    Calls Tryz.prog 12 #[.slice a L.length cap] w fun e w' => e = .returned (.bool v) ∧ Below w.heap.size w w' := by
  obtain ⟨b, t, ht⟩ := tg_some (ofM21 L)
  have hval := HV.out
  unfold valT at hval
  rcases ho : (ofM21 L).isSome with _ | _
  · rw [ho] at ht hval
    obtain ⟨x, hx⟩ : ∃ x, firB lmN L = x := ⟨_, rfl⟩
    obtain ⟨q, hq⟩ : ∃ q, firQ lmN L = q := ⟨_, rfl⟩
    have hxs : x.size ≤ 65000 := by rw [← hx]; exact fir_small (hv.out lmN)
    obtain ⟨n, hn⟩ := num_some (prsD x.data.toList)
    have hd : fdtD lmN L = prsD x.data.toList := by unfold fdtD; rw [hx]
    rw [hd, Bool.false_or] at hval
    rw [hval] at hn
    have HT := box ht
    have HX := box hx
    have HQ := box hq
    have HN := box hn
    have M : Box (lmN.size ≤ 65536) := box (by decide)
    have B0 := box (below_new w (.cells #[.bool false, .string ⟨#[]⟩] 45))
    clear ht hval ho hx hq hn hd
    go_enter Tryz.func12, Tryz.ntmps12
    go_wp2_with fail
    refine (mOf24_is S hv hF HT).mono ?_; rintro e w1 ⟨rfl, hb1⟩
    have B1 := box ((hb1).alloc hb1.size (.cells #[.bool b, .string t] 45))
    have F1 := box (hF.out.below B1.out)
    have W1 := box (hW.out.below B1.out)
    clear hb1
    go_wp2_with fail
    refine (mFirst23_is (nm := lmN) S M F1 HX HQ).mono ?_; rintro e w2 ⟨rfl, hb2⟩
    have B2 := box (B1.out.trans (hb2.mono B1.out.size))
    have W2 := box (W1.out.below hb2)
    clear hb2
    go_wp2_with fail
    refine (mPrs23_is hxs W2.out HN).mono ?_; rintro e w3 ⟨rfl, hb3⟩
    have B3 := box (B2.out.trans (hb3.mono B2.out.size))
    clear hb3
    go_wp2
    go_ret
    exact ⟨rfl, B3.out⟩
  · rw [ho] at ht hval
    rw [Bool.true_or] at hval
    subst hval
    have HT := box ht
    clear ht ho
    go_enter Tryz.func12, Tryz.ntmps12
    go_wp2_with fail
    refine (mOf24_is S hv hF HT).mono ?_; rintro e w1 ⟨rfl, hb1⟩
    have B1 := box ((hb1).alloc hb1.size (.cells #[.bool b, .string t] 45))
    clear hb1
    go_wp2
    go_ret
    exact ⟨rfl, B1.out⟩
theorem mUns_any (m : ByteArray) (w : World) :
    Calls Tryz.prog 14 #[.string m] w fun e w' => e = .returned (.bool (unsB m.data.toList)) ∧ w = w' := by
  have HE : Box (unsB m.data.toList = !(m.toList == [71, 69, 84] || m.toList == [72, 69, 65, 68] || m.toList == [79, 80, 84, 73, 79, 78, 83] || m.toList == [84, 82, 65, 67, 69])) := box (by rw [toList_data]; rfl)
  rcases h1 : (m.toList == [71, 69, 84]) with _ | _ <;> rcases h2 : (m.toList == [72, 69, 65, 68]) with _ | _ <;> rcases h3 : (m.toList == [79, 80, 84, 73, 79, 78, 83]) with _ | _ <;> rcases h4 : (m.toList == [84, 82, 65, 67, 69]) with _ | _
  all_goals
    simp only [h1, h2, h3, h4, Bool.or_true, Bool.true_or, Bool.false_or, Bool.or_false, Bool.not_true, Bool.not_false] at HE
    go_enter Tryz.func14, Tryz.ntmps14
    go_wp2
    go_ret
    exact ⟨ret_bool (by rw [HE.out]), rfl⟩
theorem mAny24_is {mr pb v : Bool} {sm : Int} {ns nc pr pv oc : Bool} {ma mf ms : Int} {w : World} (h : Box ((mr || pb || (sm != -1)) = v)) :
    Calls Tryz.prog 21 #[.agg #[.bool ns, .bool nc, .bool mr, .bool pr, .bool pv, .bool pb, .bool oc, .int .i64 ma, .int .i64 sm, .int .i64 mf, .int .i64 ms]] w fun e w' => e = .returned (.bool v) ∧ Below w.heap.size w w' := by
  have B0 := box (below_new w (.cells #[.bool ns, .bool nc, .bool mr, .bool pr, .bool pv, .bool pb, .bool oc, .int .i64 ma, .int .i64 sm, .int .i64 mf, .int .i64 ms] 36))
  have hh := h.out
  clear h
  rcases hs : (sm != -1) with _ | _ <;> cases mr <;> cases pb
  all_goals
    rw [hs] at hh
    have hs' := hs
    clear hs
    subst hh
    go_enter Tryz.func21, Tryz.ntmps21
    go_wp2
    go_ret
    exact ⟨rfl, B0.out⟩
theorem mLater_any (a : Option Addr) (cap : Nat) (L : List F) (v : Bool) (w : World) (S : Box (Sm L)) (hv : Box (∀ nm, ∀ x ∈ getL nm L, x.size ≤ 65000)) (hF : Box (Fs w a L)) (hW : Box (Tabs w)) (HV : Box ((decide (0 < lifS L) || valT L) = v)) :
    Calls Tryz.prog 22 #[.slice a L.length cap] w fun e w' => e = .returned (.bool v) ∧ Below w.heap.size w w' := by
  obtain ⟨x, hx⟩ : ∃ x, lifS L = x := ⟨_, rfl⟩
  have HX : Box (lifeV (respC (allL ccN L)) (fdtD exN L) (fdtD daN L) = x) := box hx
  have hval := HV.out
  rw [hx] at hval
  by_cases h0 : 0 < x
  · rw [decide_eq_true h0, Bool.true_or] at hval
    subst hval
    clear hx
    go_enter Tryz.func22, Tryz.ntmps22
    go_wp2_with fail
    refine (mLife_any a cap L x _ S hv hF hW HX).mono ?_; rintro e w1 ⟨rfl, hb1⟩
    have B1 := box hb1
    clear hb1
    go_wp2
    go_ret
    exact ⟨rfl, B1.out⟩
  · rw [decide_eq_false h0, Bool.false_or] at hval
    have HVV := box hval
    have HZ : Box ((decide (0 < x) || v) = v) := box (by rw [decide_eq_false h0, Bool.false_or])
    clear hval hx
    go_enter Tryz.func22, Tryz.ntmps22
    go_wp2_with fail
    refine (mLife_any a cap L x _ S hv hF hW HX).mono ?_; rintro e w1 ⟨rfl, hb1⟩
    have B1 := box hb1
    have F1 := box (hF.out.below hb1)
    have W1 := box (hW.out.below hb1)
    clear hb1
    go_wp2_with fail
    refine (mVal_any a cap L v _ S hv F1 W1 HVV).mono ?_; rintro e w2 ⟨rfl, hb2⟩
    have B2 := box (B1.out.trans (hb2.mono B1.out.size))
    clear hb2
    go_wp2
    go_ret
    exact ⟨ret_bool HZ.out, B2.out⟩
end
section
open Go.RowKit
theorem rFold22_is {a b : ByteArray} {q : Bool} {w : World} (ha : a.size ≤ 65536) (hb : b.size ≤ 65536) (h : Box (foldL a.data.toList b.data.toList = q)) :
    Calls Tryz.prog 44 #[.string a, .string b] w fun e w' => e = .returned (.bool q) ∧ Below w.heap.size w w' :=
  (rFold_any a b w (by omega) (by omega)).mono fun e w' ⟨h1, h2⟩ => ⟨by rw [h1, h.out], h2⟩
theorem rToken22_is {s : ByteArray} {b : Bool} {w : World} (hs : s.size ≤ 65536) (h : Box (tokL s.data.toList = b)) :
    Calls Tryz.prog 47 #[.string s] w fun e w' => e = .returned (.bool b) ∧ w = w' :=
  (rToken_any s w (by unfold maxLen; omega)).mono fun e w' ⟨h1, h2⟩ => ⟨by rw [h1, h.out], h2⟩
theorem rUnq22_is {s : ByteArray} {o : Option (List UInt8)} {w : World} (hs : s.size ≤ 65536) (h : Box (unqL s.data.toList = o)) :
    Calls Tryz.prog 109 #[.string s] w fun e w' => e = .returned (optV o) ∧ Below w.heap.size w w' :=
  (rUnquote_any s w (by omega)).mono fun e w' ⟨h1, h2⟩ => ⟨by rw [h1, h.out], h2⟩
theorem rNum22_is {s : ByteArray} {o : Option Int} {w : World} (hs : s.size ≤ 65536) (h : Box (numL s.data.toList = o)) :
    Calls Tryz.prog 75 #[.string s] w fun e w' => e = .returned (numT o) ∧ w = w' :=
  (rNumber_any s w (by unfold maxLen; omega)).mono fun e w' ⟨h1, h2⟩ => ⟨by rw [h1, h.out], h2⟩
/-- the outer loop: no directive of the name so far -/
def DirRel (n : List UInt8) (K : List ByteArray) (w : World) (i : Value) (wr : World) : Prop :=
  ∃ j : Nat, i = .int .i64 j ∧ j ≤ K.length ∧ Box (dirD n ((toL K).take j) = none) ∧ Box (Below w.heap.size w wr)
theorem isD_at {m n : List UInt8} {k : Nat} {t : List UInt8} (h : namD m = t) : isD n m = (!t.isEmpty && foldL t n) := by unfold isD; rw [h]
set_option maxHeartbeats 4000000 in
theorem rDir_any (a : Option Addr) (cap : Nat) (K : List ByteArray) (n : ByteArray) (w : World) (hl : K.length ≤ 65536) (hn : n.size ≤ 65536) (HZ : Box (∀ m ∈ K, m.size ≤ 65000)) (hF : Box (Ss w a K)) :
    Calls Tryz.prog 45 #[.slice a K.length cap, .string n] w fun e w' => e = .returned (optV (dirD n.data.toList (toL K))) ∧ Below w.heap.size w w' := by
  go_enter Tryz.func45, Tryz.ntmps45
  go_wp2
  go_loopw [6] (fun i wr => DirRel n.data.toList K w i wr) (fun i _ => K.length - (intOf i).toNat)
  case atStart => exact ⟨0, rfl, Nat.zero_le _, box rfl, box (Below.refl _ _)⟩
  case round =>
    obtain ⟨j, rfl, hj, hD, hbl⟩ := hrel
    by_cases hlt : j < K.length
    · have hji : (j : Int) < (K.length : Int) := by omega
      obtain ⟨s, hs⟩ : ∃ s, K[j] = s := ⟨_, rfl⟩
      have hsz : s.size ≤ 65000 := by rw [← hs]; exact HZ.out _ (List.getElem_mem hlt)
      obtain ⟨g, off, hga, cA⟩ := (hF.out.below hbl.out) j hlt
      cases hga
      rw [hs] at cA
      have HTL : Box ((toL K)[j]'(by rw [toL_len]; exact hlt) = s.data.toList) := box (by rw [toL_at hlt, hs])
      have HLT : Box (j < (toL K).length) := box (by rw [toL_len]; exact hlt)
      have hz : s.data.toList.length = s.size := by simp
      clear hs
      go_wp2
      go_loop [7] (fun i => ∃ k : Nat, k ≤ s.size ∧ i = .int .i64 k ∧ Box (NamAt s.data.toList k)) (fun i => s.size - (intOf i).toNat)
      case atStart => exact ⟨0, Nat.zero_le _, rfl, box rfl⟩
      case round =>
        obtain ⟨k, hk, rfl, hall⟩ := hrel
        by_cases hkt : k < s.size
        · have hki : (k : Int) < (s.size : Int) := by omega
          have hb := byte_bd s k hkt
          rcases hp : tokI (s[k].toNat) with _ | _
          · have HC := nam_cut (l := s.data.toList) (k := k) (by omega) hall.out (fun h => by rw [Array.getElem_toList]; exact hp)
            have HTB : ∀ w : World, Calls Tryz.prog 73 #[.int .u8 (s[k].toNat : Int)] w fun e w' => e = .returned (.bool false) ∧ w = w' := fun w => by rw [← hp]; exact rTokenByte_any _ w hb.1 hb.2
            clear hp
            obtain ⟨y, hy⟩ : ∃ y, s.extract 0 k = y := ⟨_, rfl⟩
            obtain ⟨z, hzz⟩ : ∃ z, s.extract k s.size = z := ⟨_, rfl⟩
            have hyl : namD s.data.toList = y.data.toList := by rw [← hy, ext_bs, bs_toList, List.drop_zero]; exact HC.1
            have hzl : rstD s.data.toList = z.data.toList := by rw [← hzz, ext_drop21]; exact HC.2
            have hyk : y.data.toList.length = k := by rw [← hyl, HC.1, List.length_take, hz]; omega
            have hys : y.size ≤ 65536 := by
              have e1 : y.data.toList.length = y.size := by simp
              rw [← e1, hyk]; omega
            have HI := isD_at (n := n.data.toList) (k := k) hyl
            have b0 : (0 : Int) ≤ (k : Int) := by omega
            have b1 : (k : Int) ≤ (s.size : Int) := by omega
            by_cases hk0 : k = 0
            · have HM : Box (dirD n.data.toList ((toL K).take (j + 1)) = none) := box (dir_more HLT.out hD.out (by
                have e : y.data.toList = [] := List.eq_nil_of_length_eq_zero (by rw [hyk]; exact hk0)
                rw [HTL.out, HI, e]; rfl))
              have k0i : ¬ (0 : Int) < (k : Int) := by omega
              clear HI HC hyl hzl hyk hz hall hk0 HTL HLT
              go_wp2_with (go_at_call 73; refine (HTB _).mono ?_; rintro e w' ⟨rfl, rfl⟩)
              go_roundw
              case rel => exact ⟨j + 1, by go_num, hlt, HM, hbl⟩
              case measure => simp [intOf]; omega
            · have k0i : (0 : Int) < (k : Int) := by omega
              have hye : y.data.toList.isEmpty = false := by
                cases hq : y.data.toList with
                | nil => rw [hq] at hyk; exact absurd hyk.symm hk0
                | cons c r => rfl
              rw [hye, Bool.not_false, Bool.true_and] at HI
              rcases hf : foldL y.data.toList n.data.toList with _ | _
              · rw [hf] at HI
                have HM : Box (dirD n.data.toList ((toL K).take (j + 1)) = none) := box (dir_more HLT.out hD.out (by rw [HTL.out]; exact HI))
                have HFF := box hf
                clear HI HC hyl hzl hyk hz hall hk0 hye HTL HLT hf
                go_wp2_with (first | (go_at_call 73; refine (HTB _).mono ?_; rintro e w' ⟨rfl, rfl⟩) | (go_at_call 44; refine (rFold22_is hys hn HFF).mono ?_; rintro e w2 ⟨rfl, hb2⟩; have B2 := box (hbl.out.trans (hb2.mono hbl.out.size)); have c2 := (hb2.cell (cell_lt cA)).trans cA; clear hb2 cA))
                go_roundw
                case rel => exact ⟨j + 1, by go_num, hlt, HM, B2⟩
                case measure => simp [intOf]; omega
              · rw [hf] at HI
                have HM : Box (dirD n.data.toList (toL K) = some z.data.toList) := box (by
                  rw [dir_hit HLT.out hD.out (by rw [HTL.out]; exact HI), HTL.out, hzl])
                have HFF := box hf
                clear HI HC hyl hzl hyk hz hall hk0 hye HTL HLT hf
                go_wp2_with (first | (go_at_call 73; refine (HTB _).mono ?_; rintro e w' ⟨rfl, rfl⟩) | (go_at_call 44; refine (rFold22_is hys hn HFF).mono ?_; rintro e w2 ⟨rfl, hb2⟩; have B2 := box (hbl.out.trans (hb2.mono hbl.out.size)); have c2 := (hb2.cell (cell_lt cA)).trans cA; clear hb2 cA))
                go_ret2
                exact ⟨by rw [HM.out]; rfl, B2.out⟩
          · have HN : Box (NamAt s.data.toList (k + 1)) := box (all_more hall.out hkt hp)
            have HTB : ∀ w : World, Calls Tryz.prog 73 #[.int .u8 (s[k].toNat : Int)] w fun e w' => e = .returned (.bool true) ∧ w = w' := fun w => by rw [← hp]; exact rTokenByte_any _ w hb.1 hb.2
            clear hp hz hall
            go_wp2_with (go_at_call 73; refine (HTB _).mono ?_; rintro e w' ⟨rfl, rfl⟩)
            go_round
            case rel => exact ⟨k + 1, by omega, by go_num, HN⟩
            case measure => simp [intOf]; omega
        · have hki : ¬ (k : Int) < (s.size : Int) := by omega
          have HC := nam_cut (l := s.data.toList) (k := k) (by omega) hall.out (fun h => absurd h (by rw [hz]; exact hkt))
          obtain ⟨y, hy⟩ : ∃ y, s.extract 0 k = y := ⟨_, rfl⟩
          obtain ⟨z, hzz⟩ : ∃ z, s.extract k s.size = z := ⟨_, rfl⟩
          have hyl : namD s.data.toList = y.data.toList := by rw [← hy, ext_bs, bs_toList, List.drop_zero]; exact HC.1
          have hzl : rstD s.data.toList = z.data.toList := by rw [← hzz, ext_drop21]; exact HC.2
          have hyk : y.data.toList.length = k := by rw [← hyl, HC.1, List.length_take, hz]; omega
          have hys : y.size ≤ 65536 := by
            have e1 : y.data.toList.length = y.size := by simp
            rw [← e1, hyk]; omega
          have HI := isD_at (n := n.data.toList) (k := k) hyl
          have b0 : (0 : Int) ≤ (k : Int) := by omega
          have b1 : (k : Int) ≤ (s.size : Int) := by omega
          by_cases hk0 : k = 0
          · have HM : Box (dirD n.data.toList ((toL K).take (j + 1)) = none) := box (dir_more HLT.out hD.out (by
              have e : y.data.toList = [] := List.eq_nil_of_length_eq_zero (by rw [hyk]; exact hk0)
              rw [HTL.out, HI, e]; rfl))
            have k0i : ¬ (0 : Int) < (k : Int) := by omega
            clear HI HC hyl hzl hyk hz hall hk0 HTL HLT
            go_wp2
            go_roundw
            case rel => exact ⟨j + 1, by go_num, hlt, HM, hbl⟩
            case measure => simp [intOf]; omega
          · have k0i : (0 : Int) < (k : Int) := by omega
            have hye : y.data.toList.isEmpty = false := by
              cases hq : y.data.toList with
              | nil => rw [hq] at hyk; exact absurd hyk.symm hk0
              | cons c r => rfl
            rw [hye, Bool.not_false, Bool.true_and] at HI
            rcases hf : foldL y.data.toList n.data.toList with _ | _
            · rw [hf] at HI
              have HM : Box (dirD n.data.toList ((toL K).take (j + 1)) = none) := box (dir_more HLT.out hD.out (by rw [HTL.out]; exact HI))
              have HFF := box hf
              clear HI HC hyl hzl hyk hz hall hk0 hye HTL HLT hf
              go_wp2_with (go_at_call 44; refine (rFold22_is hys hn HFF).mono ?_; rintro e w2 ⟨rfl, hb2⟩; have B2 := box (hbl.out.trans (hb2.mono hbl.out.size)); have c2 := (hb2.cell (cell_lt cA)).trans cA; clear hb2 cA)
              go_roundw
              case rel => exact ⟨j + 1, by go_num, hlt, HM, B2⟩
              case measure => simp [intOf]; omega
            · rw [hf] at HI
              have HM : Box (dirD n.data.toList (toL K) = some z.data.toList) := box (by
                rw [dir_hit HLT.out hD.out (by rw [HTL.out]; exact HI), HTL.out, hzl])
              have HFF := box hf
              clear HI HC hyl hzl hyk hz hall hk0 hye HTL HLT hf
              go_wp2_with (go_at_call 44; refine (rFold22_is hys hn HFF).mono ?_; rintro e w2 ⟨rfl, hb2⟩; have B2 := box (hbl.out.trans (hb2.mono hbl.out.size)); have c2 := (hb2.cell (cell_lt cA)).trans cA; clear hb2 cA)
              go_ret2
              exact ⟨by rw [HM.out]; rfl, B2.out⟩
    · have hji : ¬ (j : Int) < (K.length : Int) := by omega
      have HR : Box (dirD n.data.toList (toL K) = none) := box (by
        have := hD.out
        rwa [List.take_of_length_le (by rw [toL_len]; omega)] at this)
      go_wp2
      go_ret2
      exact ⟨by rw [HR.out]; rfl, hbl.out⟩
theorem optV_some22 (s : ByteArray) : optV (some s.data.toList) = .tuple #[.string s, .bool true] := rfl
theorem rArg_any (s : ByteArray) (w : World) (hs : s.size ≤ 65000) :
    Calls Tryz.prog 74 #[.string s] w fun e w' => e = .returned (optV (argD s.data.toList)) ∧ Below w.heap.size w w' := by
  by_cases hn : s.data.toList = []
  · have h0 : (s.toList == []) = true := by rw [toList_data, hn]; rfl
    have HA : Box (argD s.data.toList = none) := box (by rw [hn]; rfl)
    clear hn
    go_enter Tryz.func74, Tryz.ntmps74
    go_wp2
    go_ret2
    exact ⟨by rw [HA.out]; rfl, Below.refl _ _⟩
  · have h0 : (s.toList == []) = false := by rw [toList_data, beq_eq_false_iff_ne]; exact hn
    have hz : s.data.toList.length = s.size := by simp
    have hp : 0 < s.size := by
      rw [← hz]; exact List.length_pos_iff.2 hn
    have hpi : (0 : Int) < (s.size : Int) := by omega
    have hcons : s.data.toList = s[0] :: s.data.toList.drop 1 := drop_cons s 0 hp
    have hA := argD_cons s[0] (s.data.toList.drop 1)
    rw [← hcons] at hA
    by_cases hc : s[0] = 61
    · have h1 : ((s[0].toNat : Int) != 61) = false := by rw [hc]; rfl
      rw [if_pos hc] at hA
      obtain ⟨x, hx⟩ : ∃ x, s.extract 1 s.size = x := ⟨_, rfl⟩
      have hxl : x.data.toList = s.data.toList.drop 1 := by rw [← hx]; exact ext_drop21 1
      have hxs : x.size ≤ 65536 := by
        have e1 : x.data.toList.length = x.size := by simp
        rw [← e1, hxl, List.length_drop]; omega
      rw [← hxl] at hA
      have h1i : (1 : Int) ≤ (s.size : Int) := by omega
      clear hn hc hcons hxl hz
      rcases ht : tokL x.data.toList with _ | _
      · rw [ht, if_neg (by decide)] at hA
        have HT := box ht
        obtain ⟨o, ho⟩ : ∃ o, unqL x.data.toList = o := ⟨_, rfl⟩
        have HO := box ho
        rw [ho] at hA
        have HA := box hA
        clear ht hA ho
        go_enter Tryz.func74, Tryz.ntmps74
        go_wp2_with fail
        refine (rToken22_is hxs HT).mono ?_; rintro e w1 ⟨rfl, rfl⟩
        go_wp2_with fail
        refine (rUnq22_is hxs HO).mono ?_; rintro e w2 ⟨rfl, hb⟩
        have B := box hb
        clear hb
        rcases o with _ | u
        · unfold optV
          go_wp2
          go_ret2
          exact ⟨by rw [HA.out]; rfl, B.out⟩
        · unfold optV
          go_wp2
          go_ret2
          exact ⟨by rw [HA.out]; rfl, B.out⟩
      · rw [ht, if_pos rfl] at hA
        have HT := box ht
        have HA := box hA
        clear ht hA
        go_enter Tryz.func74, Tryz.ntmps74
        go_wp2_with fail
        refine (rToken22_is hxs HT).mono ?_; rintro e w1 ⟨rfl, rfl⟩
        go_wp2
        go_ret2
        exact ⟨by rw [HA.out]; rfl, Below.refl _ _⟩
    · have h1 : ((s[0].toNat : Int) != 61) = true := by
        rw [bne_iff_ne]; intro e
        exact hc (byte_eq (n := 61) (by simpa using e) (by decide))
      rw [if_neg hc] at hA
      have HA := box hA
      clear hn hc hcons hA hz
      go_enter Tryz.func74, Tryz.ntmps74
      go_wp2
      go_ret2
      exact ⟨by rw [HA.out]; rfl, Below.refl _ _⟩
theorem rArg_is {s : ByteArray} {o : Option (List UInt8)} {w : World} (hs : s.size ≤ 65000) (h : Box (argD s.data.toList = o)) :
    Calls Tryz.prog 74 #[.string s] w fun e w' => e = .returned (optV o) ∧ Below w.heap.size w w' :=
  (rArg_any s w hs).mono fun e w' ⟨h1, h2⟩ => ⟨by rw [h1, h.out], h2⟩
theorem rDir_is {a : Option Addr} {cap m : Nat} {K : List ByteArray} {n : ByteArray} {o : Option (List UInt8)} {w : World} (hm : Box (K.length = m)) (hl : m ≤ 65536) (hn : n.size ≤ 65536) (HZ : Box (∀ m ∈ K, m.size ≤ 65000)) (hF : Box (Ss w a K)) (h : Box (dirD n.data.toList (toL K) = o)) :
    Calls Tryz.prog 45 #[.slice a m cap, .string n] w fun e w' => e = .returned (optV o) ∧ Below w.heap.size w w' := by
  have := rDir_any a cap K n w (by rw [hm.out]; exact hl) hn HZ hF
  rw [h.out, hm.out] at this
  exact this
theorem dir_len {n : List UInt8} {M : List (List UInt8)} {r : List UInt8} (h : dirD n M = some r) : ∃ m ∈ M, r.length ≤ m.length := by
  unfold dirD at h
  obtain ⟨m, hm, rfl⟩ := Option.map_eq_some_iff.1 h
  exact ⟨m, List.mem_of_find?_eq_some hm, rst_len m⟩
theorem rSec_any (a : Option Addr) (cap m : Nat) (K : List ByteArray) (n : ByteArray) (bare bad : Int) (w : World) (hm : Box (K.length = m)) (hl : m ≤ 65536) (hn : n.size ≤ 65536) (HZ : Box (∀ m ∈ K, m.size ≤ 65000)) (hF : Box (Ss w a K)) :
    Calls Tryz.prog 46 #[.slice a m cap, .string n, .int .i64 bare, .int .i64 bad] w fun e w' => e = .returned (.int .i64 (secD n.data.toList bare bad (toL K))) ∧ Below w.heap.size w w' := by
  obtain ⟨o, ho⟩ : ∃ o, dirD n.data.toList (toL K) = o := ⟨_, rfl⟩
  have HO := box ho
  have HSE : Box (secD n.data.toList bare bad (toL K) = secO bare bad o) := box (by unfold secD; rw [ho])
  rcases o with _ | r
  · clear ho
    go_enter Tryz.func46, Tryz.ntmps46
    go_wp2_with fail
    refine (rDir_is hm hl hn HZ hF HO).mono ?_; rintro e w1 ⟨rfl, hb⟩
    have B := box hb
    clear hb
    unfold optV
    go_wp2
    go_ret
    exact ⟨by rw [HSE.out]; rfl, B.out⟩
  · have hrz : (bs r).size ≤ 65000 := by
      obtain ⟨x, hx, hle⟩ := dir_len ho
      unfold toL at hx
      obtain ⟨y, hy, rfl⟩ := List.mem_map.1 hx
      have h1 := HZ.out y hy
      have e1 : y.data.toList.length = y.size := by simp
      have e2 : (bs r).size = r.length := rfl
      omega
    obtain ⟨s, hs⟩ : ∃ s, bs r = s := ⟨_, rfl⟩
    have hrs : r = s.data.toList := by rw [← hs, bs_toList]
    rw [hs] at hrz
    subst hrs
    clear ho hs
    have hse : bs s.data.toList = s := bs_all22 s
    by_cases he : s.data.toList = []
    · have h0 : (s.toList == []) = true := by rw [toList_data, he]; rfl
      have HN : Box (secO bare bad (some s.data.toList) = bare) := box (by show numD bare bad _ = _; unfold numD; rw [if_pos he])
      clear he
      go_enter Tryz.func46, Tryz.ntmps46
      go_wp2_with fail
      refine (rDir_is hm hl hn HZ hF HO).mono ?_; rintro e w1 ⟨rfl, hb⟩
      have B := box hb
      clear hb
      rw [optV_some22]
      clear hse
      go_wp2
      go_ret
      exact ⟨by rw [HSE.out, HN.out]; rfl, B.out⟩
    · have h0 : (s.toList == []) = false := by rw [toList_data, beq_eq_false_iff_ne]; exact he
      have hN : secO bare bad (some s.data.toList) = (numL ((argD s.data.toList).getD [])).getD bad := numD_alt he bare bad
      have hal := argD_len s.data.toList
      have hsz : s.data.toList.length = s.size := by simp
      clear he
      obtain ⟨o, ho⟩ : ∃ o, argD s.data.toList = o := ⟨_, rfl⟩
      have HA := box ho
      rw [ho] at hN hal
      clear ho
      rcases o with _ | u
      · have HN : Box (secO bare bad (some s.data.toList) = bad) := box (by rw [hN]; rfl)
        have HU : Box (numL (⟨#[]⟩ : ByteArray).data.toList = none) := box rfl
        have h00 : (⟨#[]⟩ : ByteArray).size ≤ 65536 := by decide
        clear hN hal hsz
        go_enter Tryz.func46, Tryz.ntmps46
        go_wp2_with fail
        refine (rDir_is hm hl hn HZ hF HO).mono ?_; rintro e w1 ⟨rfl, hb⟩
        have B := box hb
        clear hb
        rw [optV_some22]
        clear hse
        go_wp2_with fail
        refine (rArg_is hrz HA).mono ?_; rintro e w2 ⟨rfl, hb⟩
        have B2 := box (B.out.trans (hb.mono B.out.size))
        clear hb
        unfold optV
        go_wp2_with fail
        refine (rNum22_is h00 HU).mono ?_; rintro e w3 ⟨rfl, rfl⟩
        unfold numT numV
        go_wp2
        go_ret
        exact ⟨by rw [HSE.out, HN.out]; rfl, B2.out⟩
      · have hus : (bs u).size ≤ 65536 := by
          have e2 : (bs u).size = u.length := rfl
          simp only [Option.getD_some] at hal
          omega
        simp only [Option.getD_some] at hN
        obtain ⟨v, hv⟩ : ∃ v, numL u = v := ⟨_, rfl⟩
        have HU : Box (numL (bs u).data.toList = v) := box hv
        rw [hv] at hN
        have HN := box hN
        clear hN hal hsz hv
        rcases v with _ | v
        · go_enter Tryz.func46, Tryz.ntmps46
          go_wp2_with fail
          refine (rDir_is hm hl hn HZ hF HO).mono ?_; rintro e w1 ⟨rfl, hb⟩
          have B := box hb
          clear hb
          rw [optV_some22]
          clear hse
          go_wp2_with fail
          refine (rArg_is hrz HA).mono ?_; rintro e w2 ⟨rfl, hb⟩
          have B2 := box (B.out.trans (hb.mono B.out.size))
          clear hb
          unfold optV
          go_wp2_with fail
          refine (rNum22_is hus HU).mono ?_; rintro e w3 ⟨rfl, rfl⟩
          unfold numT numV
          go_wp2
          go_ret
          exact ⟨by rw [HSE.out, HN.out]; rfl, B2.out⟩
        · go_enter Tryz.func46, Tryz.ntmps46
          go_wp2_with fail
          refine (rDir_is hm hl hn HZ hF HO).mono ?_; rintro e w1 ⟨rfl, hb⟩
          have B := box hb
          clear hb
          rw [optV_some22]
          clear hse
          go_wp2_with fail
          refine (rArg_is hrz HA).mono ?_; rintro e w2 ⟨rfl, hb⟩
          have B2 := box (B.out.trans (hb.mono B.out.size))
          clear hb
          unfold optV
          go_wp2_with fail
          refine (rNum22_is hus HU).mono ?_; rintro e w3 ⟨rfl, rfl⟩
          unfold numT numV
          go_wp2
          go_ret
          exact ⟨by rw [HSE.out, HN.out]; rfl, B2.out⟩
theorem rSec_is {a : Option Addr} {cap m : Nat} {K : List ByteArray} {n : ByteArray} {bare bad v : Int} {w : World} (hm : Box (K.length = m)) (hl : m ≤ 65536) (hn : n.size ≤ 65536) (HZ : Box (∀ m ∈ K, m.size ≤ 65000)) (hF : Box (Ss w a K)) (h : Box (secD n.data.toList bare bad (toL K) = v)) :
    Calls Tryz.prog 46 #[.slice a m cap, .string n, .int .i64 bare, .int .i64 bad] w fun e w' => e = .returned (.int .i64 v) ∧ Below w.heap.size w w' :=
  (rSec_any a cap m K n bare bad w hm hl hn HZ hF).mono fun e w' ⟨h1, h2⟩ => ⟨by rw [h1, h.out], h2⟩
end
section
open Go.RowKit
theorem rAll22_is {a : Option Addr} {cap n : Nat} {L : List F} {nm : ByteArray} {K : List ByteArray} {w : World} (S : Box (Sm L)) (hv : Box (∀ x ∈ getL nm L, x.size ≤ 65000)) (M : nm.size ≤ 65536) (hF : Box (Fs w a L)) (h : Box (allB nm L = K)) (hn : Box (K.length = n)) :
    Calls Tryz.prog 43 #[.slice a L.length cap, .string nm] w fun e w' => ∃ p c, e = .returned (.slice p n c) ∧ Ss w' p K ∧ Below w.heap.size w w' :=
  (rAll_any a cap L nm w S hv (box M) hF).mono fun e w' ⟨v, h1, h2, h3⟩ => by
    rw [h.out] at h2
    obtain ⟨p, c, rfl, h4, h5⟩ := h2.ss
    rw [hn.out] at h1
    exact ⟨p, c, h1, h4, h3⟩
theorem rDir_b {a : Option Addr} {cap m : Nat} {K : List ByteArray} {n : ByteArray} {b : Bool} {w : World} (hm : Box (K.length = m)) (hl : m ≤ 65536) (hn : n.size ≤ 65536) (HZ : Box (∀ m ∈ K, m.size ≤ 65000)) (hF : Box (Ss w a K)) (h : Box ((dirD n.data.toList (toL K)).isSome = b)) :
    Calls Tryz.prog 45 #[.slice a m cap, .string n] w fun e w' => ∃ x, e = .returned (.tuple #[.string x, .bool b]) ∧ Below w.heap.size w w' :=
  (rDir_is hm hl hn HZ hF (o := dirD n.data.toList (toL K)) (box rfl)).mono fun e w' ⟨h1, h2⟩ => by
    have hb := h.out
    rcases hd : dirD n.data.toList (toL K) with _ | r
    · rw [hd] at hb h1; cases hb; exact ⟨_, h1, h2⟩
    · rw [hd] at hb h1; cases hb; exact ⟨_, h1, h2⟩
set_option maxHeartbeats 8000000 in
theorem rResp_any (a : Option Addr) (cap : Nat) (L : List F) (w : World) (S : Box (Sm L)) (hv : Box (∀ x ∈ getL ccN L, x.size ≤ 65000)) (hF : Box (Fs w a L)) (c : CT) (HC : Box (respC (allL ccN L) = c)) :
    Calls Tryz.prog 24 #[.slice a L.length cap] w fun e w' => e = .returned (ctV c) ∧ Below w.heap.size w w' := by
  obtain ⟨K, hK⟩ : ∃ K, allB ccN L = K := ⟨_, rfl⟩
  obtain ⟨n, hn⟩ : ∃ n, K.length = n := ⟨_, rfl⟩
  have HM : Box (allL ccN L = toL K) := box (by rw [← hK, toL_all])
  have HZ : Box (∀ m ∈ K, m.size ≤ 65000) := box (by rw [← hK]; exact allB_small22 hv.out)
  have hn64 : n ≤ 64 := by rw [← hn, ← hK]; unfold allB allL; rw [List.length_map, List.length_take]; omega
  have hn6 : n ≤ 65536 := by omega
  have HK := box hK
  have HNn := box hn
  have hl := S.out.1
  have hcc : ccN.size ≤ 65536 := by decide
  obtain ⟨b0, hb0⟩ : ∃ b, (dirD nsN (toL K)).isSome = b := ⟨_, rfl⟩
  obtain ⟨b1, hb1⟩ : ∃ b, (dirD ncN (toL K)).isSome = b := ⟨_, rfl⟩
  obtain ⟨b2, hb2⟩ : ∃ b, (dirD mrN (toL K)).isSome = b := ⟨_, rfl⟩
  obtain ⟨b3, hb3⟩ : ∃ b, (dirD prN (toL K)).isSome = b := ⟨_, rfl⟩
  obtain ⟨b4, hb4⟩ : ∃ b, (dirD pvN (toL K)).isSome = b := ⟨_, rfl⟩
  obtain ⟨b5, hb5⟩ : ∃ b, (dirD pbN (toL K)).isSome = b := ⟨_, rfl⟩
  obtain ⟨b6, hb6⟩ : ∃ b, (dirD ocN (toL K)).isSome = b := ⟨_, rfl⟩
  obtain ⟨b7, hb7⟩ : ∃ b, secD maN 0 0 (toL K) = b := ⟨_, rfl⟩
  obtain ⟨b8, hb8⟩ : ∃ b, secD smN 0 0 (toL K) = b := ⟨_, rfl⟩
  obtain ⟨b9, hb9⟩ : ∃ b, secD mfN 2147483647 2147483647 (toL K) = b := ⟨_, rfl⟩
  obtain ⟨b10, hb10⟩ : ∃ b, secD msN 2147483647 0 (toL K) = b := ⟨_, rfl⟩
  have HCC : Box (c = ⟨b0 || decide (64 ≤ n), b1, b2, b3, b4, b5, b6, b7, b8, b9, b10⟩) := box (by
    rw [← HC.out, HM.out]; unfold respC ctl0; rw [toL_len, hn, hb0, hb1, hb2, hb3, hb4, hb5, hb6, hb7, hb8, hb9, hb10])
  have H0 := box hb0
  have H1 := box hb1
  have H2 := box hb2
  have H3 := box hb3
  have H4 := box hb4
  have H5 := box hb5
  have H6 := box hb6
  have H7 := box hb7
  have H8 := box hb8
  have H9 := box hb9
  have H10 := box hb10
  clear hK hn hb0 hb1 hb2 hb3 hb4 hb5 hb6 hb7 hb8 hb9 hb10
  have R0 : Box (Ct w.heap.size ct0 (w.alloc (.cells (ctA ct0) 36))) := box (Ct.new ct0 w 36)
  have B0 : Box (Below w.heap.size w (w.alloc (.cells (ctA ct0) 36))) := box (below_new w _)
  have F0 := box (hF.out.below B0.out)
  have z0 : (bs nsN).size ≤ 65536 := by decide
  have z1 : (bs ncN).size ≤ 65536 := by decide
  have z2 : (bs mrN).size ≤ 65536 := by decide
  have z3 : (bs prN).size ≤ 65536 := by decide
  have z4 : (bs pvN).size ≤ 65536 := by decide
  have z5 : (bs pbN).size ≤ 65536 := by decide
  have z6 : (bs ocN).size ≤ 65536 := by decide
  have z7 : (bs maN).size ≤ 65536 := by decide
  have z8 : (bs smN).size ≤ 65536 := by decide
  have z9 : (bs mfN).size ≤ 65536 := by decide
  have z10 : (bs msN).size ≤ 65536 := by decide
  go_enter Tryz.func24, Tryz.ntmps24
  go_wp2_with fail
  refine (rAll22_is S hv hcc F0 HK HNn).mono ?_; rintro e w1 ⟨p, cp, rfl, hS1, hb1⟩
  have R1 := box (R0.out.next hb1)
  have B1 := box (B0.out.trans (hb1.mono B0.out.size))
  have S1 := box hS1
  have M0 : Box (Below w1.heap.size w1 (w1.alloc (.cells (ctA ct0) 36))) := box (below_new w1 _)
  have C0 : Box (Ct w1.heap.size ct0 (w1.alloc (.cells (ctA ct0) 36))) := box (Ct.new ct0 w1 36)
  have hg : w.heap.size < w1.heap.size := R1.out.lt
  clear hS1 hb1
  go_wp2_with fail
  refine (rDir_b HNn hn6 z0 HZ (box (S1.out.below M0.out)) H0).mono ?_; rintro e w2 ⟨x0, rfl, hb⟩
  have C0' := C0.out.next hb
  have M1 := box ((M0.out.trans (hb.mono M0.out.size)).setCell (p := ⟨w1.heap.size, 0, none⟩) (Nat.le_refl _) (.bool b0))
  have C1 := box (C0'.set_ns b0)
  obtain ⟨⟨c0, c1, c2, c3, c4, c5, c6, c7, c8, c9, c10⟩, ⟨f0, f1, f2, f3, f4, f5, f6, f7, f8, f9, f10⟩⟩ := C0'
  clear hb C0 M0
  go_wp2_with fail
  clear c0 c1 c2 c3 c4 c5 c6 c7 c8 c9 c10 f0 f1 f2 f3 f4 f5 f6 f7 f8 f9 f10
  refine (rDir_b HNn hn6 z1 HZ (box (S1.out.below M1.out)) H1).mono ?_; rintro e w3 ⟨x1, rfl, hb⟩
  have C1' := C1.out.next hb
  have M2 := box ((M1.out.trans (hb.mono M1.out.size)).setCell (p := ⟨w1.heap.size, 1, none⟩) (Nat.le_refl _) (.bool b1))
  have C2 := box (C1'.set_nc b1)
  obtain ⟨⟨c0, c1, c2, c3, c4, c5, c6, c7, c8, c9, c10⟩, ⟨f0, f1, f2, f3, f4, f5, f6, f7, f8, f9, f10⟩⟩ := C1'
  clear hb C1 M1
  go_wp2_with fail
  clear c0 c1 c2 c3 c4 c5 c6 c7 c8 c9 c10 f0 f1 f2 f3 f4 f5 f6 f7 f8 f9 f10
  refine (rDir_b HNn hn6 z2 HZ (box (S1.out.below M2.out)) H2).mono ?_; rintro e w4 ⟨x2, rfl, hb⟩
  have C2' := C2.out.next hb
  have M3 := box ((M2.out.trans (hb.mono M2.out.size)).setCell (p := ⟨w1.heap.size, 2, none⟩) (Nat.le_refl _) (.bool b2))
  have C3 := box (C2'.set_mr b2)
  obtain ⟨⟨c0, c1, c2, c3, c4, c5, c6, c7, c8, c9, c10⟩, ⟨f0, f1, f2, f3, f4, f5, f6, f7, f8, f9, f10⟩⟩ := C2'
  clear hb C2 M2
  go_wp2_with fail
  clear c0 c1 c2 c3 c4 c5 c6 c7 c8 c9 c10 f0 f1 f2 f3 f4 f5 f6 f7 f8 f9 f10
  refine (rDir_b HNn hn6 z3 HZ (box (S1.out.below M3.out)) H3).mono ?_; rintro e w5 ⟨x3, rfl, hb⟩
  have C3' := C3.out.next hb
  have M4 := box ((M3.out.trans (hb.mono M3.out.size)).setCell (p := ⟨w1.heap.size, 3, none⟩) (Nat.le_refl _) (.bool b3))
  have C4 := box (C3'.set_pr b3)
  obtain ⟨⟨c0, c1, c2, c3, c4, c5, c6, c7, c8, c9, c10⟩, ⟨f0, f1, f2, f3, f4, f5, f6, f7, f8, f9, f10⟩⟩ := C3'
  clear hb C3 M3
  go_wp2_with fail
  clear c0 c1 c2 c3 c4 c5 c6 c7 c8 c9 c10 f0 f1 f2 f3 f4 f5 f6 f7 f8 f9 f10
  refine (rDir_b HNn hn6 z4 HZ (box (S1.out.below M4.out)) H4).mono ?_; rintro e w6 ⟨x4, rfl, hb⟩
  have C4' := C4.out.next hb
  have M5 := box ((M4.out.trans (hb.mono M4.out.size)).setCell (p := ⟨w1.heap.size, 4, none⟩) (Nat.le_refl _) (.bool b4))
  have C5 := box (C4'.set_pv b4)
  obtain ⟨⟨c0, c1, c2, c3, c4, c5, c6, c7, c8, c9, c10⟩, ⟨f0, f1, f2, f3, f4, f5, f6, f7, f8, f9, f10⟩⟩ := C4'
  clear hb C4 M4
  go_wp2_with fail
  clear c0 c1 c2 c3 c4 c5 c6 c7 c8 c9 c10 f0 f1 f2 f3 f4 f5 f6 f7 f8 f9 f10
  refine (rDir_b HNn hn6 z5 HZ (box (S1.out.below M5.out)) H5).mono ?_; rintro e w7 ⟨x5, rfl, hb⟩
  have C5' := C5.out.next hb
  have M6 := box ((M5.out.trans (hb.mono M5.out.size)).setCell (p := ⟨w1.heap.size, 5, none⟩) (Nat.le_refl _) (.bool b5))
  have C6 := box (C5'.set_pb b5)
  obtain ⟨⟨c0, c1, c2, c3, c4, c5, c6, c7, c8, c9, c10⟩, ⟨f0, f1, f2, f3, f4, f5, f6, f7, f8, f9, f10⟩⟩ := C5'
  clear hb C5 M5
  go_wp2_with fail
  clear c0 c1 c2 c3 c4 c5 c6 c7 c8 c9 c10 f0 f1 f2 f3 f4 f5 f6 f7 f8 f9 f10
  refine (rDir_b HNn hn6 z6 HZ (box (S1.out.below M6.out)) H6).mono ?_; rintro e w8 ⟨x6, rfl, hb⟩
  have C6' := C6.out.next hb
  have M7 := box ((M6.out.trans (hb.mono M6.out.size)).setCell (p := ⟨w1.heap.size, 6, none⟩) (Nat.le_refl _) (.bool b6))
  have C7 := box (C6'.set_oc b6)
  obtain ⟨⟨c0, c1, c2, c3, c4, c5, c6, c7, c8, c9, c10⟩, ⟨f0, f1, f2, f3, f4, f5, f6, f7, f8, f9, f10⟩⟩ := C6'
  clear hb C6 M6
  go_wp2_with fail
  clear c0 c1 c2 c3 c4 c5 c6 c7 c8 c9 c10 f0 f1 f2 f3 f4 f5 f6 f7 f8 f9 f10
  refine (rSec_is HNn hn6 z7 HZ (box (S1.out.below M7.out)) H7).mono ?_; rintro e w9 ⟨rfl, hb⟩
  have C7' := C7.out.next hb
  have M8 := box ((M7.out.trans (hb.mono M7.out.size)).setCell (p := ⟨w1.heap.size, 7, none⟩) (Nat.le_refl _) (.int .i64 b7))
  have C8 := box (C7'.set_ma b7)
  obtain ⟨⟨c0, c1, c2, c3, c4, c5, c6, c7, c8, c9, c10⟩, ⟨f0, f1, f2, f3, f4, f5, f6, f7, f8, f9, f10⟩⟩ := C7'
  clear hb C7 M7
  go_wp2_with fail
  clear c0 c1 c2 c3 c4 c5 c6 c7 c8 c9 c10 f0 f1 f2 f3 f4 f5 f6 f7 f8 f9 f10
  refine (rSec_is HNn hn6 z8 HZ (box (S1.out.below M8.out)) H8).mono ?_; rintro e w10 ⟨rfl, hb⟩
  have C8' := C8.out.next hb
  have M9 := box ((M8.out.trans (hb.mono M8.out.size)).setCell (p := ⟨w1.heap.size, 8, none⟩) (Nat.le_refl _) (.int .i64 b8))
  have C9 := box (C8'.set_sm b8)
  obtain ⟨⟨c0, c1, c2, c3, c4, c5, c6, c7, c8, c9, c10⟩, ⟨f0, f1, f2, f3, f4, f5, f6, f7, f8, f9, f10⟩⟩ := C8'
  clear hb C8 M8
  go_wp2_with fail
  clear c0 c1 c2 c3 c4 c5 c6 c7 c8 c9 c10 f0 f1 f2 f3 f4 f5 f6 f7 f8 f9 f10
  refine (rSec_is HNn hn6 z9 HZ (box (S1.out.below M9.out)) H9).mono ?_; rintro e w11 ⟨rfl, hb⟩
  have C9' := C9.out.next hb
  have M10 := box ((M9.out.trans (hb.mono M9.out.size)).setCell (p := ⟨w1.heap.size, 9, none⟩) (Nat.le_refl _) (.int .i64 b9))
  have C10 := box (C9'.set_mf b9)
  obtain ⟨⟨c0, c1, c2, c3, c4, c5, c6, c7, c8, c9, c10⟩, ⟨f0, f1, f2, f3, f4, f5, f6, f7, f8, f9, f10⟩⟩ := C9'
  clear hb C9 M9
  go_wp2_with fail
  clear c0 c1 c2 c3 c4 c5 c6 c7 c8 c9 c10 f0 f1 f2 f3 f4 f5 f6 f7 f8 f9 f10
  refine (rSec_is HNn hn6 z10 HZ (box (S1.out.below M10.out)) H10).mono ?_; rintro e w12 ⟨rfl, hb⟩
  have C10' := C10.out.next hb
  have M11 := box ((M10.out.trans (hb.mono M10.out.size)).setCell (p := ⟨w1.heap.size, 10, none⟩) (Nat.le_refl _) (.int .i64 b10))
  have C11 := box (C10'.set_ms b10)
  have CF : Ct w1.heap.size ⟨b0, b1, b2, b3, b4, b5, b6, b7, b8, b9, 0⟩ w12 := C10'
  have RF := (R1.out.below (M10.out.trans (hb.mono M10.out.size)) hg)
  obtain ⟨⟨c0, c1, c2, c3, c4, c5, c6, c7, c8, c9, c10⟩, ⟨f0, f1, f2, f3, f4, f5, f6, f7, f8, f9, f10⟩⟩ := CF
  obtain ⟨⟨r0, r1, r2, r3, r4, r5, r6, r7, r8, r9, r10⟩, ⟨q0, q1, q2, q3, q4, q5, q6, q7, q8, q9, q10⟩⟩ := RF
  clear hb C10 M10 C10' C11
  rcases b0 with _ | _
  · by_cases h64 : 64 ≤ n
    · have h64i : (64 : Int) ≤ (n : Int) := by omega
      have HC2 : c = ⟨true, b1, b2, b3, b4, b5, b6, b7, b8, b9, b10⟩ := HCC.out.trans (congrArg (fun z => CT.mk (false || z) b1 b2 b3 b4 b5 b6 b7 b8 b9 b10) (decide_eq_true h64))
      clear h64 hn64
      go_wp2
      (try simp only [Exit.inBlock, Exit.then])
      refine bodyPost_ret (v := ctV ⟨true, b1, b2, b3, b4, b5, b6, b7, b8, b9, b10⟩) (by rw [results_cell22 rfl]; go_simp; rfl) rfl ?_
      have B12 := B1.out.trans (M11.out.mono B1.out.size)
      have B13 := B12.setCell (p := ⟨w1.heap.size, 0, none⟩) (Nat.le_of_lt hg) (.bool true)
      have B14 := ct_put_below B13 (Nat.le_refl _) ⟨true, b1, b2, b3, b4, b5, b6, b7, b8, b9, b10⟩
      refine ⟨?_, B14⟩
      exact congrArg (fun z => Ending.returned (ctV z)) HC2.symm
    · have h64i : decide ((64 : Int) ≤ (n : Int)) = false := by rw [decide_eq_false_iff_not]; omega
      have HC2 : c = ⟨false, b1, b2, b3, b4, b5, b6, b7, b8, b9, b10⟩ := HCC.out.trans (congrArg (fun z => CT.mk (false || z) b1 b2 b3 b4 b5 b6 b7 b8 b9 b10) (decide_eq_false h64))
      clear h64 hn64
      go_wp2
      (try simp only [Exit.inBlock, Exit.then])
      refine bodyPost_ret (v := ctV ⟨false, b1, b2, b3, b4, b5, b6, b7, b8, b9, b10⟩) (by rw [results_cell22 rfl]; go_simp; rfl) rfl ?_
      have B12 := B1.out.trans (M11.out.mono B1.out.size)
      have B13 := B12.setCell (p := ⟨w1.heap.size, 0, none⟩) (Nat.le_of_lt hg) (.bool false)
      have B14 := ct_put_below B13 (Nat.le_refl _) ⟨false, b1, b2, b3, b4, b5, b6, b7, b8, b9, b10⟩
      refine ⟨?_, B14⟩
      exact congrArg (fun z => Ending.returned (ctV z)) HC2.symm
  · have HC2 : c = ⟨true, b1, b2, b3, b4, b5, b6, b7, b8, b9, b10⟩ := HCC.out
    go_wp2
    (try simp only [Exit.inBlock, Exit.then])
    refine bodyPost_ret (v := ctV ⟨true, b1, b2, b3, b4, b5, b6, b7, b8, b9, b10⟩) (by rw [results_cell22 rfl]; go_simp; rfl) rfl ?_
    have B12 := B1.out.trans (M11.out.mono B1.out.size)
    have B13 := B12.setCell (p := ⟨w1.heap.size, 0, none⟩) (Nat.le_of_lt hg) (.bool true)
    have B14 := ct_put_below B13 (Nat.le_refl _) ⟨true, b1, b2, b3, b4, b5, b6, b7, b8, b9, b10⟩
    refine ⟨?_, B14⟩
    exact congrArg (fun z => Ending.returned (ctV z)) HC2.symm
theorem rResp_is {a : Option Addr} {cap : Nat} {L : List F} {c : CT} {w : World} (S : Box (Sm L)) (hv : Box (∀ x ∈ getL ccN L, x.size ≤ 65000)) (hF : Box (Fs w a L)) (HC : Box (respC (allL ccN L) = c)) :
    Calls Tryz.prog 24 #[.slice a L.length cap] w fun e w' => e = .returned (.agg #[.bool c.ns, .bool c.nc, .bool c.mr, .bool c.pr, .bool c.pv, .bool c.pb, .bool c.oc, .int .i64 c.ma, .int .i64 c.sm, .int .i64 c.mf, .int .i64 c.ms]) ∧ Below w.heap.size w w' :=
  rResp_any a cap L w S hv hF c HC
theorem rHas22_is {a : Option Addr} {cap : Nat} {L : List F} {nm : ByteArray} {q : Bool} {w : World} (S : Box (Sm L)) (M : nm.size ≤ 65536) (hF : Box (Fs w a L)) (h : Box (L.any (nmd nm) = q)) :
    Calls Tryz.prog 26 #[.slice a L.length cap, .string nm] w fun e w' => e = .returned (.bool q) ∧ Below w.heap.size w w' :=
  (rHas_any a cap L nm w S.out.1 S (box M) hF).mono fun e w' ⟨h1, h2⟩ => ⟨by rw [h1, h.out], h2⟩
theorem rAll22_own {a : Option Addr} {cap n : Nat} {L : List F} {nm : ByteArray} {K : List ByteArray} {w : World} (S : Box (Sm L)) (hv : Box (∀ x ∈ getL nm L, x.size ≤ 65000)) (M : nm.size ≤ 65536) (hF : Box (Fs w a L)) (h : Box (allB nm L = K)) (hn : Box (K.length = n)) :
    Calls Tryz.prog 43 #[.slice a L.length cap, .string nm] w fun e w' => ∃ p c, e = .returned (.slice p n c) ∧ OwnS w' w.heap.size (.slice p n c) K ∧ Below w.heap.size w w' :=
  (rAll_any a cap L nm w S hv (box M) hF).mono fun e w' ⟨v, h1, h2, h3⟩ => by
    rw [h.out] at h2
    obtain ⟨p, c, rfl, h4, h5⟩ := h2.ss
    rw [hn.out] at h1 h2
    exact ⟨p, c, h1, h2, h3⟩
/-- j members of Pragma have been looked at -/
def RqRel (d : CT) (K : List ByteArray) (p : Option Addr) (n cp g B : Nat) (w : World) (i : Value) (wr : World) : Prop :=
  ∃ (j : Nat) (x : Bool), i = .int .i64 j ∧ j ≤ n ∧ Box ((d.nc || pragC ((toL K).take j)) = x) ∧ Box (Ct g { d with nc := x } wr) ∧ Box (Ct w.heap.size ct0 wr) ∧ Box (OwnS wr B (.slice p n cp) K) ∧ Box (Below w.heap.size w wr)
set_option maxHeartbeats 8000000 in
theorem rReqC_any (a : Option Addr) (cap : Nat) (L : List F) (w : World) (S : Box (Sm L)) (hv : Box (∀ nm, ∀ x ∈ getL nm L, x.size ≤ 65000)) (hF : Box (Fs w a L)) (c : CT) (HC : Box (reqC (L.any (nmd ccN)) (allL ccN L) (allL pgN L) = c)) :
    Calls Tryz.prog 23 #[.slice a L.length cap] w fun e w' => e = .returned (ctV c) ∧ Below w.heap.size w w' := by
  obtain ⟨d, hd⟩ : ∃ d, respC (allL ccN L) = d := ⟨_, rfl⟩
  have HD := box hd
  have hv1 : Box (∀ x ∈ getL ccN L, x.size ≤ 65000) := box (hv.out ccN)
  have hv2 : Box (∀ x ∈ getL pgN L, x.size ≤ 65000) := box (hv.out pgN)
  have hcc : ccN.size ≤ 65536 := by decide
  have hpg : pgN.size ≤ 65536 := by decide
  have hnc : (bs ncN).size ≤ 65536 := by decide
  have hl := S.out.1
  have R0 : Box (Ct w.heap.size ct0 (w.alloc (.cells (ctA ct0) 36))) := box (Ct.new ct0 w 36)
  have B0 : Box (Below w.heap.size w (w.alloc (.cells (ctA ct0) 36))) := box (below_new w _)
  have F0 := box (hF.out.below B0.out)
  rcases hh : L.any (nmd ccN) with _ | _
  · have HH := box hh
    obtain ⟨K, hK⟩ : ∃ K, allB pgN L = K := ⟨_, rfl⟩
    obtain ⟨n, hn⟩ : ∃ n, K.length = n := ⟨_, rfl⟩
    have HM : Box (allL pgN L = toL K) := box (by rw [← hK, toL_all])
    have HZ : Box (∀ m ∈ K, m.size ≤ 65000) := box (by rw [← hK]; exact allB_small22 hv2.out)
    have hn64 : n ≤ 64 := by rw [← hn, ← hK]; unfold allB allL; rw [List.length_map, List.length_take]; omega
    have HK := box hK
    have HNn := box hn
    have HCE : Box ({ d with nc := d.nc || pragC (toL K) } = c) := box (by
      rw [← HC.out, hh, ← hd, HM.out]; unfold reqC respC ctl0; simp)
    clear hd hh hK hn HC
    go_enter Tryz.func23, Tryz.ntmps23
    go_wp2_with fail
    refine (rResp_is S hv1 F0 HD).mono ?_; rintro e w1 ⟨rfl, hb1⟩
    have R1 := box ((R0.out.next hb1).next (below_new w1 (.cells (ctA d) 36)))
    have C1 := box (Ct.new d w1 36)
    have B1 := box ((B0.out.trans (hb1.mono B0.out.size)).trans ((below_new w1 (.cells (ctA d) 36)).mono (B0.out.trans (hb1.mono B0.out.size)).size))
    have hg : w.heap.size < w1.heap.size := (R0.out.next hb1).lt
    have F1 := box ((F0.out.below hb1).below (below_new w1 (.cells (ctA d) 36)))
    clear hb1
    go_wp2_with fail
    refine (rHas22_is S hcc F1 HH).mono ?_; rintro e w2 ⟨rfl, hb2⟩
    have R2 := box (R1.out.next hb2)
    have C2 := box (C1.out.next hb2)
    have B2 := box (B1.out.trans (hb2.mono B1.out.size))
    have F2 := box (F1.out.below hb2)
    clear hb2
    go_wp2_with fail
    refine (rAll22_own S hv2 hpg F2 HK HNn).mono ?_; rintro e w3 ⟨p, cp, rfl, hO3, hb3⟩
    have R3 := box (R2.out.next hb3)
    have C3 := box (C2.out.next hb3)
    have B3 := box (B2.out.trans (hb3.mono B2.out.size))
    have O3 := box hO3
    have hg3 : w1.heap.size < w2.heap.size := C2.out.lt
    clear hO3 hb3
    go_wp2
    go_loopw [5] (fun i wr => RqRel d K p n cp w1.heap.size w2.heap.size w i wr) (fun i _ => n - (intOf i).toNat)
    case atStart => exact ⟨0, d.nc, rfl, Nat.zero_le _, box (by rw [List.take_zero]; show (d.nc || false) = d.nc; rw [Bool.or_false]), C3, R3, O3, B3⟩
    case round =>
      obtain ⟨j, x, rfl, hj, hx, hC, hR, hO, hbl⟩ := hrel
      by_cases hlt : j < n
      · have hji : (j : Int) < (n : Int) := by omega
        have hjK : j < K.length := by rw [HNn.out]; exact hlt
        obtain ⟨m, hm⟩ : ∃ m, K[j] = m := ⟨_, rfl⟩
        have hmz : m.size ≤ 65536 := by rw [← hm]; have := HZ.out _ (List.getElem_mem hjK); omega
        obtain ⟨g, off, hga, cA⟩ := own_ss hO.out j hjK
        cases hga
        rw [hm] at cA
        have hmore := prag_more (P := toL K) (k := j) (by rw [toL_len]; exact hjK)
        rw [toL_at hjK, hm] at hmore
        rcases x with _ | _
        · rcases hq : foldL m.data.toList ncN with _ | _
          · have HX : Box ((d.nc || pragC ((toL K).take (j + 1))) = false) := box (by rw [hmore, hq, Bool.or_false]; exact hx.out)
            have HQ : Box (foldL m.data.toList (bs ncN).data.toList = false) := box hq
            clear hm hjK hmore hq
            obtain ⟨⟨c0, c1, c2, c3, c4, c5, c6, c7, c8, c9, c10⟩, ⟨f0, f1, f2, f3, f4, f5, f6, f7, f8, f9, f10⟩⟩ := hC.out
            go_wp2_with fail
            refine (rFold22_is hmz hnc HQ).mono ?_; rintro e w4 ⟨rfl, hb4⟩
            have C4 := hC.out.next hb4
            have R5 := box ((hR.out.next hb4).only ((Only.refl w1.heap.size w4).setAt 1 (.bool false)) (Nat.ne_of_lt hg))
            have O5 : Box (OwnS (w4.setCell ⟨w1.heap.size, 1, none⟩ (.bool false)) w2.heap.size (.slice (some ⟨g, off, none⟩) n cp) K) := box (own_only (own_below hO.out hb4) ((Only.refl w1.heap.size w4).setAt 1 (.bool false)) hg3)
            have B5 := box ((hbl.out.trans (hb4.mono hbl.out.size)).setCell (p := ⟨w1.heap.size, 1, none⟩) (Nat.le_of_lt hg) (.bool false))
            have C5 : Box (Ct w1.heap.size { d with nc := false } (w4.setCell ⟨w1.heap.size, 1, none⟩ (.bool false))) := box (C4.set_nc false)
            clear c0 c1 c2 c3 c4 c5 c6 c7 c8 c9 c10 f0 f1 f2 f3 f4 f5 f6 f7 f8 f9 f10 cA hb4
            obtain ⟨⟨c0, c1, c2, c3, c4, c5, c6, c7, c8, c9, c10⟩, ⟨f0, f1, f2, f3, f4, f5, f6, f7, f8, f9, f10⟩⟩ := C4
            go_wp2
            go_roundw
            case rel => exact ⟨j + 1, false, by go_num, hlt, HX, C5, R5, O5, B5⟩
            case measure => simp [intOf]; omega
          · have HX : Box ((d.nc || pragC ((toL K).take (j + 1))) = true) := box (by rw [hmore, hq]; simp)
            have HQ : Box (foldL m.data.toList (bs ncN).data.toList = true) := box hq
            clear hm hjK hmore hq
            obtain ⟨⟨c0, c1, c2, c3, c4, c5, c6, c7, c8, c9, c10⟩, ⟨f0, f1, f2, f3, f4, f5, f6, f7, f8, f9, f10⟩⟩ := hC.out
            go_wp2_with fail
            refine (rFold22_is hmz hnc HQ).mono ?_; rintro e w4 ⟨rfl, hb4⟩
            have C4 := hC.out.next hb4
            have R5 := box ((hR.out.next hb4).only ((Only.refl w1.heap.size w4).setAt 1 (.bool true)) (Nat.ne_of_lt hg))
            have O5 : Box (OwnS (w4.setCell ⟨w1.heap.size, 1, none⟩ (.bool true)) w2.heap.size (.slice (some ⟨g, off, none⟩) n cp) K) := box (own_only (own_below hO.out hb4) ((Only.refl w1.heap.size w4).setAt 1 (.bool true)) hg3)
            have B5 := box ((hbl.out.trans (hb4.mono hbl.out.size)).setCell (p := ⟨w1.heap.size, 1, none⟩) (Nat.le_of_lt hg) (.bool true))
            have C5 : Box (Ct w1.heap.size { d with nc := true } (w4.setCell ⟨w1.heap.size, 1, none⟩ (.bool true))) := box (C4.set_nc true)
            clear c0 c1 c2 c3 c4 c5 c6 c7 c8 c9 c10 f0 f1 f2 f3 f4 f5 f6 f7 f8 f9 f10 cA hb4
            obtain ⟨⟨c0, c1, c2, c3, c4, c5, c6, c7, c8, c9, c10⟩, ⟨f0, f1, f2, f3, f4, f5, f6, f7, f8, f9, f10⟩⟩ := C4
            go_wp2
            go_roundw
            case rel => exact ⟨j + 1, true, by go_num, hlt, HX, C5, R5, O5, B5⟩
            case measure => simp [intOf]; omega
        · have HX : Box ((d.nc || pragC ((toL K).take (j + 1))) = true) := box (by rw [hmore, ← Bool.or_assoc, hx.out]; rfl)
          have R5 := box (hR.out.only ((Only.refl w1.heap.size wr).setAt 1 (.bool true)) (Nat.ne_of_lt hg))
          have O5 : Box (OwnS (wr.setCell ⟨w1.heap.size, 1, none⟩ (.bool true)) w2.heap.size (.slice (some ⟨g, off, none⟩) n cp) K) := box (own_only hO.out ((Only.refl w1.heap.size wr).setAt 1 (.bool true)) hg3)
          have B5 := box (hbl.out.setCell (p := ⟨w1.heap.size, 1, none⟩) (Nat.le_of_lt hg) (.bool true))
          have C5 : Box (Ct w1.heap.size { d with nc := true } (wr.setCell ⟨w1.heap.size, 1, none⟩ (.bool true))) := box (hC.out.set_nc true)
          clear hm hjK hmore
          obtain ⟨⟨c0, c1, c2, c3, c4, c5, c6, c7, c8, c9, c10⟩, ⟨f0, f1, f2, f3, f4, f5, f6, f7, f8, f9, f10⟩⟩ := hC.out
          go_wp2
          go_roundw
          case rel => exact ⟨j + 1, true, by go_num, hlt, HX, C5, R5, O5, B5⟩
          case measure => simp [intOf]; omega
      · have hji : ¬ (j : Int) < (n : Int) := by omega
        have hT : (toL K).take j = toL K := List.take_of_length_le (by rw [toL_len, HNn.out]; omega)
        have hxx := hx.out
        rw [hT] at hxx
        have hce := HCE.out
        rw [hxx] at hce
        subst hce
        clear hT hxx
        obtain ⟨⟨c0, c1, c2, c3, c4, c5, c6, c7, c8, c9, c10⟩, ⟨f0, f1, f2, f3, f4, f5, f6, f7, f8, f9, f10⟩⟩ := hC.out
        obtain ⟨⟨r0, r1, r2, r3, r4, r5, r6, r7, r8, r9, r10⟩, ⟨q0, q1, q2, q3, q4, q5, q6, q7, q8, q9, q10⟩⟩ := hR.out
        go_wp2
        (try simp only [Exit.inBlock, Exit.then])
        refine bodyPost_ret (v := ctV { d with nc := x }) (by rw [results_cell22 rfl]; go_simp; rfl) rfl ?_
        have B14 := ct_put_below hbl.out (Nat.le_refl _) { d with nc := x }
        exact ⟨rfl, B14⟩
  · have HH := box hh
    have hc : d = c := by rw [← hd, ← HC.out, hh, req_has]
    subst hc
    clear hd hh HC
    go_enter Tryz.func23, Tryz.ntmps23
    go_wp2_with fail
    refine (rResp_is S hv1 F0 HD).mono ?_; rintro e w1 ⟨rfl, hb1⟩
    have R1 := box ((R0.out.next hb1).next (below_new w1 (.cells (ctA d) 36)))
    have C1 := box (Ct.new d w1 36)
    have B1 := box ((B0.out.trans (hb1.mono B0.out.size)).trans ((below_new w1 (.cells (ctA d) 36)).mono (B0.out.trans (hb1.mono B0.out.size)).size))
    have hg : w.heap.size < w1.heap.size := (R0.out.next hb1).lt
    have F1 := box ((F0.out.below hb1).below (below_new w1 (.cells (ctA d) 36)))
    clear hb1
    go_wp2_with fail
    refine (rHas22_is S hcc F1 HH).mono ?_; rintro e w2 ⟨rfl, hb2⟩
    have R2 := box (R1.out.next hb2)
    have C2 := box (C1.out.next hb2)
    have B2 := box (B1.out.trans (hb2.mono B1.out.size))
    have F2 := box (F1.out.below hb2)
    clear hb2
    obtain ⟨⟨c0, c1, c2, c3, c4, c5, c6, c7, c8, c9, c10⟩, ⟨f0, f1, f2, f3, f4, f5, f6, f7, f8, f9, f10⟩⟩ := C2.out
    obtain ⟨⟨r0, r1, r2, r3, r4, r5, r6, r7, r8, r9, r10⟩, ⟨q0, q1, q2, q3, q4, q5, q6, q7, q8, q9, q10⟩⟩ := R2.out
    go_wp2
    (try simp only [Exit.inBlock, Exit.then])
    refine bodyPost_ret (v := ctV d) (by rw [results_cell22 rfl]; go_simp; rfl) rfl ?_
    exact ⟨rfl, ct_put_below B2.out (Nat.le_refl _) d⟩
end
end Go.Proofs.YtiogngfemelifaaGreatDoor.Asc
