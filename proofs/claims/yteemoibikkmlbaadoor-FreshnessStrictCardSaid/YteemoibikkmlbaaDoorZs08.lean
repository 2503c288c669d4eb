/- Merged texts: DatMine5 FrsMine FrsMine2 FrsMine3 CtlRef CtlRef2. -/
import Derived.Test.YteemoibikkmlbaaDoorZs02
import Derived.Test.YteemoibikkmlbaaDoorZs04
import Derived.Test.YteemoibikkmlbaaDoorZs05
import Derived.Test.YteemoibikkmlbaaDoorZs06
import Derived.Test.YteemoibikkmlbaaDoorZs07
import Derived.BigQuiet
import Derived.LoopTactic
set_option linter.unusedVariables false
set_option linter.unusedSimpArgs false
set_option maxRecDepth 100000
namespace Go.Proofs.YteemoibikkmlbaaDoor.Asc
section
open Go.RowKit
theorem num_q20 {s : ByteArray} {v : Int} {w : World} (hs : Box (s.size ≤ 1000)) (hv : Box ((numV (numL s.data.toList)).1 = v)) :
    Calls Tryd.prog 49 #[.string s] w fun e w' => e = .returned (.int .i64 v) ∧ w' = w :=
  (mNumber_is hs.out hv).mono fun e w' ⟨h1, h2⟩ => ⟨h1, h2.symm⟩
theorem mon_q20 {s : ByteArray} {m : Nat} {w : World} (hW : Tabs w) (hv : Box (monI s.data.toList = m)) :
    Calls Tryd.prog 50 #[.string s] w fun e w' => e = .returned (.int .i64 m) ∧ w' = w :=
  (mMonth_any s w hW).mono fun e w' ⟨h1, h2⟩ => ⟨by rw [h1, hv.out], h2.symm⟩
theorem days_q20 {y m d v : Int} {w : World} (hW : Tabs w) (hv : Box (daysV y m d = v)) :
    Calls Tryd.prog 48 #[.int .i64 y, .int .i64 m, .int .i64 d] w fun e w' => e = .returned (.int .i64 v) ∧ w' = w :=
  (mDays_is hW hv).mono fun e w' ⟨h1, h2⟩ => ⟨h1, h2.symm⟩
theorem ext_num {s p : ByteArray} {a b : Nat} {v : Int} (hp : s.extract a b = p) (hv : nmD s.data.toList a b = v) : Box ((numV (numL p.data.toList)).1 = v) := box (by
  rw [← hp, ext_cut, bs_toList]; exact hv)
theorem ext_size {s p : ByteArray} {a b : Nat} (hp : s.extract a b = p) (h : b ≤ 1000) : Box (p.size ≤ 1000) := box (by
  rw [← hp, ByteArray.size_extract]; omega)
set_option maxHeartbeats 2000000 in
theorem mParse_in (s : ByteArray) (w : World) (hs : s.size = 29) (hW : Tabs w) :
    Calls Tryd.prog 33 #[.string s] w fun e w' => e = .returned (numT (prsD s.data.toList)) ∧ Below w.heap.size w w' := by
  have HT := box hW
  obtain ⟨p12, h12⟩ : ∃ p, s.extract 12 16 = p := ⟨_, rfl⟩
  obtain ⟨p8, h8⟩ : ∃ p, s.extract 8 11 = p := ⟨_, rfl⟩
  obtain ⟨p5, h5⟩ : ∃ p, s.extract 5 7 = p := ⟨_, rfl⟩
  obtain ⟨p17, h17⟩ : ∃ p, s.extract 17 19 = p := ⟨_, rfl⟩
  obtain ⟨p20, h20⟩ : ∃ p, s.extract 20 22 = p := ⟨_, rfl⟩
  obtain ⟨p23, h23⟩ : ∃ p, s.extract 23 25 = p := ⟨_, rfl⟩
  obtain ⟨Y, hY⟩ : ∃ v, nmD s.data.toList 12 16 = v := ⟨_, rfl⟩
  obtain ⟨M, hM⟩ : ∃ v, monI (cutD s.data.toList 8 11) = v := ⟨_, rfl⟩
  obtain ⟨D, hD⟩ : ∃ v, nmD s.data.toList 5 7 = v := ⟨_, rfl⟩
  obtain ⟨H, hH⟩ : ∃ v, nmD s.data.toList 17 19 = v := ⟨_, rfl⟩
  obtain ⟨I, hI⟩ : ∃ v, nmD s.data.toList 20 22 = v := ⟨_, rfl⟩
  obtain ⟨C, hC⟩ : ∃ v, nmD s.data.toList 23 25 = v := ⟨_, rfl⟩
  obtain ⟨V, hV⟩ : ∃ v, daysV Y M D = v := ⟨_, rfl⟩
  have hdy : dayD s.data.toList = V := by unfold dayD; rw [hY, hM, hD]; exact hV
  have htm : timeD s.data.toList = V * 86400 + (H * 3600 + I * 60 + C) := by unfold timeD; rw [hdy, hH, hI, hC]
  have b1 := day_bd s.data.toList
  rw [hdy] at b1
  have b2 := nm_bd s.data.toList 17 19
  rw [hH] at b2
  have b3 := nm_bd s.data.toList 20 22
  rw [hI] at b3
  have b4 := nm_bd s.data.toList 23 25
  rw [hC] at b4
  have N12 := ext_num h12 hY
  have N5 := ext_num h5 hD
  have N17 := ext_num h17 hH
  have N20 := ext_num h20 hI
  have N23 := ext_num h23 hC
  have N8 : Box (monI p8.data.toList = M) := box (by rw [← h8, ext_cut, bs_toList]; exact hM)
  have Z12 := ext_size h12 (by omega)
  have Z5 := ext_size h5 (by omega)
  have Z17 := ext_size h17 (by omega)
  have Z20 := ext_size h20 (by omega)
  have Z23 := ext_size h23 (by omega)
  have E12 := box h12
  have E8 := box h8
  have E5 := box h5
  have E17 := box h17
  have E20 := box h20
  have E23 := box h23
  have NV := box hV
  obtain ⟨P1, hP1⟩ : ∃ v, V * 86400 = v := ⟨_, rfl⟩
  obtain ⟨P2, hP2⟩ : ∃ v, H * 3600 = v := ⟨_, rfl⟩
  obtain ⟨P3, hP3⟩ : ∃ v, I * 60 = v := ⟨_, rfl⟩
  obtain ⟨P4, hP4⟩ : ∃ v, P2 + P3 = v := ⟨_, rfl⟩
  obtain ⟨P5, hP5⟩ : ∃ v, P4 + C = v := ⟨_, rfl⟩
  obtain ⟨P6, hP6⟩ : ∃ v, P1 + P5 = v := ⟨_, rfl⟩
  have W1 : IntKind.i64.wrap P1 = P1 := IntWalk.i64_in _ (by omega)
  have W2 : IntKind.i64.wrap P2 = P2 := IntWalk.i64_in _ (by omega)
  have W3 : IntKind.i64.wrap P3 = P3 := IntWalk.i64_in _ (by omega)
  have W4 : IntKind.i64.wrap P4 = P4 := IntWalk.i64_in _ (by omega)
  have W5 : IntKind.i64.wrap P5 = P5 := IntWalk.i64_in _ (by omega)
  have W6 : IntKind.i64.wrap P6 = P6 := IntWalk.i64_in _ (by omega)
  have W7 : IntKind.i64.wrap P5 = P5 := W5
  have ht6 : timeD s.data.toList = P6 := by rw [htm]; omega
  obtain ⟨x, hx⟩ := fmt_exists P6
  have HX := box hx
  have HP : Box (prsD s.data.toList = if x = s.data.toList then some P6 else none) := box (by
    have := prs_fmt (l := s.data.toList) (x := x) (by simpa using hs) (by rw [ht6]; exact hx)
    rw [ht6] at this; exact this)
  clear hY hM hD hH hI hC hV hdy htm b1 b2 b3 b4 ht6 hx hW h12 h8 h5 h17 h20 h23
  go_enter Tryd.func33, Tryd.ntmps33
  go_wp2_with fail
  go_quiet (first | (go_at_call 49; rw [E12.out]; exact Calls.quiet_of_same (num_q20 Z12 N12)) | (go_at_call 49; rw [E5.out]; exact Calls.quiet_of_same (num_q20 Z5 N5)) | (go_at_call 50; rw [E8.out]; exact Calls.quiet_of_same (mon_q20 (HT.out.below (below_drewN _ _)) N8)) | (go_at_call 48; exact Calls.quiet_of_same (days_q20 (HT.out.below (below_drewN _ _)) NV)))
  have B1 := box (below_drewN w nq)
  generalize w.drewN nq = w1 at B1 ⊢
  clear nq
  go_wp2_with fail
  go_quiet (first | (go_at_call 49; rw [E17.out]; exact Calls.quiet_of_same (num_q20 Z17 N17)) | (go_at_call 49; rw [E20.out]; exact Calls.quiet_of_same (num_q20 Z20 N20)) | (go_at_call 49; rw [E23.out]; exact Calls.quiet_of_same (num_q20 Z23 N23)))
  have B2 := box (B1.out.trans ((below_drewN w1 nq).mono B1.out.size))
  generalize w1.drewN nq = w2 at B2 ⊢
  go_wp2_with fail
  refine (mFmt_any _ _ _ HX.out (HT.out.below B2.out)).mono ?_; rintro e w3 ⟨rfl, hb3⟩
  have B3 := box (B2.out.trans (hb3.mono B2.out.size))
  clear hb3
  by_cases hxl : x = s.data.toList
  · have he : ((bs x).toList == s.toList) = true := by rw [toList_bs, toList_data, beq_iff_eq]; exact hxl
    have HV : Box (prsD s.data.toList = some P6) := box (by rw [HP.out, if_pos hxl])
    clear hxl
    go_wp2
    go_ret2
    exact ⟨by rw [HV.out]; rfl, B3.out⟩
  · have he : ((bs x).toList == s.toList) = false := by rw [toList_bs, toList_data, beq_eq_false_iff_ne]; exact hxl
    have HV : Box (prsD s.data.toList = none) := box (by rw [HP.out, if_neg hxl])
    clear hxl
    go_wp2
    go_ret2
    exact ⟨by rw [HV.out]; rfl, B3.out⟩
theorem mParse20_any (s : ByteArray) (w : World) (hs : s.size ≤ 9223372036854775807) (hW : Tabs w) :
    Calls Tryd.prog 33 #[.string s] w fun e w' => e = .returned (numT (prsD s.data.toList)) ∧ Below w.heap.size w w' := by
  by_cases h : s.size = 29
  · exact mParse_in s w h hW
  · have HV : Box (prsD s.data.toList = none) := box (prs_no fun g => h (by have := g.len; simpa using this))
    have hi : ((s.size : Int) != 29) = true := by rw [bne_iff_ne]; omega
    clear h hW
    go_enter Tryd.func33, Tryd.ntmps33
    go_wp2
    go_ret2
    exact ⟨by rw [HV.out]; rfl, Below.refl _ _⟩
end
section
open Go.RowKit
theorem firstV_is (nm : ByteArray) (L : List F) : firstV nm L = .tuple #[.string (firB nm L), .bool (firQ nm L)] := by
  unfold firstV firB firQ
  cases getL nm L <;> rfl
theorem mFirst23_is {a : Option Addr} {cap : Nat} {L : List F} {nm x : ByteArray} {q : Bool} {w : World} (S : Box (Sm L)) (M : Box (nm.size ≤ 65536)) (hF : Box (Fs w a L)) (hx : Box (firB nm L = x)) (hq : Box (firQ nm L = q)) :
    Calls Tryd.prog 32 #[.slice a L.length cap, .string nm] w fun e w' => e = .returned (.tuple #[.string x, .bool q]) ∧ Below w.heap.size w w' :=
  (First_any a cap L nm w S.out.1 S M hF).mono fun e w' ⟨h1, h2⟩ => ⟨by rw [h1, firstV_is, hx.out, hq.out], h2⟩
theorem mPrs23_is {s : ByteArray} {a : Int} {b : Bool} {w : World} (hs : s.size ≤ 65000) (hW : Tabs w) (h : Box (numT (prsD s.data.toList) = .tuple #[.int .i64 a, .bool b])) :
    Calls Tryd.prog 33 #[.string s] w fun e w' => e = .returned (.tuple #[.int .i64 a, .bool b]) ∧ Below w.heap.size w w' :=
  (mParse20_any s w (by omega) hW).mono fun e w' ⟨h1, h2⟩ => ⟨by rw [h1, h.out], h2⟩
/-- the first date of a name -/
theorem mFdt_any (a : Option Addr) (cap : Nat) (L : List F) (nm : ByteArray) (w : World) (S : Box (Sm L)) (M : Box (nm.size ≤ 65536)) (hv : Box (∀ x ∈ getL nm L, x.size ≤ 65000)) (hF : Box (Fs w a L)) (hW : Box (Tabs w)) :
    Calls Tryd.prog 20 #[.slice a L.length cap, .string nm] w fun e w' => e = .returned (numT (fdtD nm L)) ∧ Below w.heap.size w w' := by
  obtain ⟨x, hx⟩ : ∃ x, firB nm L = x := ⟨_, rfl⟩
  obtain ⟨q, hq⟩ : ∃ q, firQ nm L = q := ⟨_, rfl⟩
  have hxs : x.size ≤ 65000 := by rw [← hx]; exact fir_small hv.out
  obtain ⟨b, c, hn⟩ : ∃ b c, numT (prsD x.data.toList) = .tuple #[.int .i64 b, .bool c] := ⟨_, _, rfl⟩
  have HX := box hx
  have HQ := box hq
  have HN := box hn
  have HZ : Box (numT (fdtD nm L) = .tuple #[.int .i64 b, .bool c]) := box (by unfold fdtD; rw [hx, hn])
  clear hx hq hn
  go_enter Tryd.func20, Tryd.ntmps20
  go_wp2_with fail
  refine (mFirst23_is S M hF HX HQ).mono ?_; rintro e w1 ⟨rfl, hb1⟩
  have B1 := box hb1
  have W1 := box (hW.out.below hb1)
  clear hb1
  go_wp2_with fail
  refine (mPrs23_is hxs W1.out HN).mono ?_; rintro e w2 ⟨rfl, hb2⟩
  have B2 := box (B1.out.trans (hb2.mono B1.out.size))
  clear hb2
  go_wp2
  go_ret2
  exact ⟨by rw [HZ.out]; rfl, B2.out⟩
/-- the age that a response states -/
theorem mNum23_is {s : ByteArray} {v : Int} {b : Bool} {w : World} (hs : s.size ≤ 65000) (h : Box (numT (numL s.data.toList) = .tuple #[.int .i64 v, .bool b])) :
    Calls Tryd.prog 38 #[.string s] w fun e w' => e = .returned (.tuple #[.int .i64 v, .bool b]) ∧ w = w' :=
  (Number_any s w (by unfold maxLen; omega)).mono fun e w' ⟨h1, h2⟩ => ⟨by rw [h1, h.out], h2⟩
theorem num_parts23 (o : Option Int) : numT o = .tuple #[.int .i64 (numV o).1, .bool (numV o).2] := by cases o <;> rfl
theorem mStat_any (a : Option Addr) (cap : Nat) (L : List F) (v : Int) (w : World) (S : Box (Sm L)) (hv : Box (∀ x ∈ getL agN L, x.size ≤ 65000)) (hF : Box (Fs w a L)) (HV : Box (statD L = v)) :
    Calls Tryd.prog 25 #[.slice a L.length cap] w fun e w' => e = .returned (.int .i64 v) ∧ Below w.heap.size w w' := by
  obtain ⟨x, hx⟩ : ∃ x, firB agN L = x := ⟨_, rfl⟩
  obtain ⟨q, hq⟩ : ∃ q, firQ agN L = q := ⟨_, rfl⟩
  have hxs : x.size ≤ 65000 := by rw [← hx]; exact fir_small hv.out
  obtain ⟨c, hc⟩ : ∃ c, (numV (numL x.data.toList)).2 = c := ⟨_, rfl⟩
  have HN : Box (numT (numL x.data.toList) = .tuple #[.int .i64 v, .bool c]) := box (by rw [num_parts23, hc, ← HV.out]; unfold statD; rw [hx])
  have hb : 0 ≤ v ∧ v ≤ 2147483647 := by rw [← HV.out]; exact stat_bd L
  have HX := box hx
  have HQ := box hq
  have M : Box (agN.size ≤ 65536) := box (by decide)
  clear hx hq hc
  go_enter Tryd.func25, Tryd.ntmps25
  go_wp2_with fail
  refine (mFirst23_is (nm := agN) S M hF HX HQ).mono ?_; rintro e w1 ⟨rfl, hb1⟩
  have B1 := box hb1
  clear hb1
  go_wp2_with fail
  refine (mNum23_is hxs HN).mono ?_; rintro e w2 ⟨rfl, rfl⟩
  go_wp2
  go_ret
  exact ⟨rfl, B1.out⟩
/-- is it a number of seconds? -/
theorem mSec_any (n : Int) (w : World) :
    Calls Tryd.prog 28 #[.int .i64 n] w fun e w' => e = .returned (.bool (secB n)) ∧ w = w' := by
  by_cases h0 : 0 ≤ n
  · by_cases h1 : n ≤ 2147483647
    · go_enter Tryd.func28, Tryd.ntmps28
      go_wp2
      go_ret
      exact ⟨ret_bool (by unfold secB; simp [h0, h1]), rfl⟩
    · go_enter Tryd.func28, Tryd.ntmps28
      go_wp2
      go_ret
      exact ⟨ret_bool (by unfold secB; simp [h0, h1]), rfl⟩
  · go_enter Tryd.func28, Tryd.ntmps28
    go_wp2
    go_ret
    exact ⟨ret_bool (by unfold secB; simp [h0]; omega), rfl⟩
/-- a sum as a duration -/
theorem mSat_any (a b : Int) (w : World) (h : -9223372036854775808 ≤ a + b ∧ a + b ≤ 9223372036854775807) :
    Calls Tryd.prog 21 #[.int .i64 a, .int .i64 b] w fun e w' => e = .returned (.int .i64 (satS (a + b))) ∧ w = w' := by
  go_enter Tryd.func21, Tryd.ntmps21
  go_wp2
  all_goals (go_ret; exact ⟨ret_int (by unfold satS; split <;> (try split) <;> omega), rfl⟩)
end
section
open Go.RowKit
theorem mResp23_is {a : Option Addr} {cap : Nat} {L : List F} {c : CT} {w : World} (S : Box (Sm L)) (hv : Box (∀ x ∈ getL ccN L, x.size ≤ 65000)) (hF : Box (Fs w a L)) (HC : Box (respC (allL ccN L) = c)) :
    Calls Tryd.prog 19 #[.slice a L.length cap] w fun e w' => e = .returned (.agg #[.bool c.ns, .bool c.nc, .bool c.mr, .bool c.pr, .bool c.pv, .bool c.pb, .bool c.oc, .int .i64 c.ma, .int .i64 c.sm, .int .i64 c.mf, .int .i64 c.ms]) ∧ Below w.heap.size w w' :=
  mResp_any a cap L w S hv hF c HC
theorem mFdt_is {a : Option Addr} {cap : Nat} {L : List F} {nm : ByteArray} {x : Int} {b : Bool} {w : World} (S : Box (Sm L)) (M : Box (nm.size ≤ 65536)) (hv : Box (∀ x ∈ getL nm L, x.size ≤ 65000)) (hF : Box (Fs w a L)) (hW : Box (Tabs w)) (H : Box (numT (fdtD nm L) = .tuple #[.int .i64 x, .bool b])) :
    Calls Tryd.prog 20 #[.slice a L.length cap, .string nm] w fun e w' => e = .returned (.tuple #[.int .i64 x, .bool b]) ∧ Below w.heap.size w w' :=
  (mFdt_any a cap L nm w S M hv hF hW).mono fun e w' ⟨h1, h2⟩ => ⟨by rw [h1, H.out], h2⟩
theorem mLife1 (a : Option Addr) (cap : Nat) (L : List F) (v : Int) (w : World) (S : Box (Sm L)) (hv : Box (∀ nm, ∀ x ∈ getL nm L, x.size ≤ 65000)) (hF : Box (Fs w a L)) (hW : Box (Tabs w)) (c : CT) (HC : Box (respC (allL ccN L) = c)) (hs : -1 ≤ c.sm) (h1 : 0 ≤ c.sm) (HV : Box (c.sm = v)) :
    Calls Tryd.prog 10 #[.slice a L.length cap] w fun e w' => e = .returned (.int .i64 v) ∧ Below w.heap.size w w' := by
  have i1 : (c.sm != -1) = true := by rw [bne_iff_ne]; omega
  clear hs h1
  go_enter Tryd.func10, Tryd.ntmps10
  go_wp2_with fail
  refine (mResp23_is S (box (hv.out ccN)) hF HC).mono ?_; rintro e w1 ⟨rfl, hb1⟩
  have B1 := box ((hb1).alloc hb1.size (.cells (ctA c) 31))
  clear hb1
  go_wp2
  go_ret
  exact ⟨ret_int HV.out, B1.out⟩
theorem mLife2 (a : Option Addr) (cap : Nat) (L : List F) (v : Int) (w : World) (S : Box (Sm L)) (hv : Box (∀ nm, ∀ x ∈ getL nm L, x.size ≤ 65000)) (hF : Box (Fs w a L)) (hW : Box (Tabs w)) (c : CT) (HC : Box (respC (allL ccN L) = c)) (hs : -1 ≤ c.sm) (hm : -1 ≤ c.ma) (h1 : ¬ 0 ≤ c.sm) (h2 : 0 ≤ c.ma) (HV : Box (c.ma = v)) :
    Calls Tryd.prog 10 #[.slice a L.length cap] w fun e w' => e = .returned (.int .i64 v) ∧ Below w.heap.size w w' := by
  have i1 : (c.sm != -1) = false := by rw [bne_eq_false_iff_eq]; omega
  have i2 : (c.ma != -1) = true := by rw [bne_iff_ne]; omega
  clear hs hm h1 h2
  go_enter Tryd.func10, Tryd.ntmps10
  go_wp2_with fail
  refine (mResp23_is S (box (hv.out ccN)) hF HC).mono ?_; rintro e w1 ⟨rfl, hb1⟩
  have B1 := box ((hb1).alloc hb1.size (.cells (ctA c) 31))
  clear hb1
  go_wp2
  go_ret
  exact ⟨ret_int HV.out, B1.out⟩
theorem mLife3 (a : Option Addr) (cap : Nat) (L : List F) (v : Int) (w : World) (S : Box (Sm L)) (hv : Box (∀ nm, ∀ x ∈ getL nm L, x.size ≤ 65000)) (hF : Box (Fs w a L)) (hW : Box (Tabs w)) (c : CT) (HC : Box (respC (allL ccN L) = c)) (hs : -1 ≤ c.sm) (hm : -1 ≤ c.ma) (h1 : ¬ 0 ≤ c.sm) (h2 : ¬ 0 ≤ c.ma) {x y : Int} {bx b : Bool} (HexN : Box (numT (fdtD exN L) = .tuple #[.int .i64 x, .bool bx])) (HdaN : Box (numT (fdtD daN L) = .tuple #[.int .i64 y, .bool b])) (hb : (bx && b) = false) (HV : Box (v = 0)) :
    Calls Tryd.prog 10 #[.slice a L.length cap] w fun e w' => e = .returned (.int .i64 v) ∧ Below w.heap.size w w' := by
  have i1 : (c.sm != -1) = false := by rw [bne_eq_false_iff_eq]; omega
  have i2 : (c.ma != -1) = false := by rw [bne_eq_false_iff_eq]; omega
  clear hs hm h1 h2
  go_enter Tryd.func10, Tryd.ntmps10
  go_wp2_with fail
  refine (mResp23_is S (box (hv.out ccN)) hF HC).mono ?_; rintro e w1 ⟨rfl, hb1⟩
  have B1 := box ((hb1).alloc hb1.size (.cells (ctA c) 31))
  have F1 := box (hF.out.below B1.out)
  have W1 := box (hW.out.below B1.out)
  clear hb1
  go_wp2_with fail
  refine (mFdt_is S (box (by decide)) (box (hv.out exN)) F1 W1 HexN).mono ?_; rintro e w2 ⟨rfl, hb2⟩
  have B2 := box (B1.out.trans (hb2.mono B1.out.size))
  have F2 := box (F1.out.below hb2)
  have W2 := box (W1.out.below hb2)
  clear hb2
  go_wp2_with fail
  refine (mFdt_is S (box (by decide)) (box (hv.out daN)) F2 W2 HdaN).mono ?_; rintro e w3 ⟨rfl, hb3⟩
  have B3 := box (B2.out.trans (hb3.mono B2.out.size))
  have F3 := box (F2.out.below hb3)
  have W3 := box (W2.out.below hb3)
  clear hb3
  have B4 := B3
  cases bx <;> cases b
  all_goals first
    | (exact absurd hb (by decide))
    | (go_wp2
       go_ret
       exact ⟨ret_int HV.out.symm, B4.out⟩)
theorem mLife4 (a : Option Addr) (cap : Nat) (L : List F) (v : Int) (w : World) (S : Box (Sm L)) (hv : Box (∀ nm, ∀ x ∈ getL nm L, x.size ≤ 65000)) (hF : Box (Fs w a L)) (hW : Box (Tabs w)) (c : CT) (HC : Box (respC (allL ccN L) = c)) (hs : -1 ≤ c.sm) (hm : -1 ≤ c.ma) (h1 : ¬ 0 ≤ c.sm) (h2 : ¬ 0 ≤ c.ma) {x y : Int} (HexN : Box (numT (fdtD exN L) = .tuple #[.int .i64 x, .bool true])) (HdaN : Box (numT (fdtD daN L) = .tuple #[.int .i64 y, .bool true])) (hx : 0 ≤ x ∧ x ≤ 253402300799) (hy : 0 ≤ y ∧ y ≤ 253402300799) (HV : Box (satS (x + -y) = v)) :
    Calls Tryd.prog 10 #[.slice a L.length cap] w fun e w' => e = .returned (.int .i64 v) ∧ Below w.heap.size w w' := by
  obtain ⟨hx0, hx1⟩ := hx
  obtain ⟨hy0, hy1⟩ := hy
  have i1 : (c.sm != -1) = false := by rw [bne_eq_false_iff_eq]; omega
  have i2 : (c.ma != -1) = false := by rw [bne_eq_false_iff_eq]; omega
  clear hs hm h1 h2
  go_enter Tryd.func10, Tryd.ntmps10
  go_wp2_with fail
  refine (mResp23_is S (box (hv.out ccN)) hF HC).mono ?_; rintro e w1 ⟨rfl, hb1⟩
  have B1 := box ((hb1).alloc hb1.size (.cells (ctA c) 31))
  have F1 := box (hF.out.below B1.out)
  have W1 := box (hW.out.below B1.out)
  clear hb1
  go_wp2_with fail
  refine (mFdt_is S (box (by decide)) (box (hv.out exN)) F1 W1 HexN).mono ?_; rintro e w2 ⟨rfl, hb2⟩
  have B2 := box (B1.out.trans (hb2.mono B1.out.size))
  have F2 := box (F1.out.below hb2)
  have W2 := box (W1.out.below hb2)
  clear hb2
  go_wp2_with fail
  refine (mFdt_is S (box (by decide)) (box (hv.out daN)) F2 W2 HdaN).mono ?_; rintro e w3 ⟨rfl, hb3⟩
  have B3 := box (B2.out.trans (hb3.mono B2.out.size))
  have F3 := box (F2.out.below hb3)
  have W3 := box (W2.out.below hb3)
  clear hb3
  have hng : IntKind.i64.wrap (-y) = -y := IntWalk.i64_in _ (by omega)
  go_wp2_with fail
  refine (mSat_any _ _ _ (by omega)).mono ?_; rintro e w4 ⟨rfl, rfl⟩
  go_wp2
  go_ret
  exact ⟨ret_int HV.out, B3.out⟩
theorem mLife_any (a : Option Addr) (cap : Nat) (L : List F) (v : Int) (w : World) (S : Box (Sm L)) (hv : Box (∀ nm, ∀ x ∈ getL nm L, x.size ≤ 65000)) (hF : Box (Fs w a L)) (hW : Box (Tabs w)) (HV : Box (lifeV (respC (allL ccN L)) (fdtD exN L) (fdtD daN L) = v)) :
    Calls Tryd.prog 10 #[.slice a L.length cap] w fun e w' => e = .returned (.int .i64 v) ∧ Below w.heap.size w w' := by
  obtain ⟨c, hc⟩ : ∃ c, respC (allL ccN L) = c := ⟨_, rfl⟩
  have hg := resp_ge (allL ccN L)
  rw [hc] at hg HV
  unfold lifeV at HV
  by_cases h1 : 0 ≤ c.sm
  · rw [if_pos h1] at HV
    exact mLife1 a cap L v w S hv hF hW c (box hc) hg.1 h1 HV
  · rw [if_neg h1] at HV
    by_cases h2 : 0 ≤ c.ma
    · rw [if_pos h2] at HV
      exact mLife2 a cap L v w S hv hF hW c (box hc) hg.1 hg.2 h1 h2 HV
    · rw [if_neg h2] at HV
      rcases hx : fdtD exN L with _ | x
      · rw [hx] at HV
        exact mLife3 a cap L v w S hv hF hW c (box hc) hg.1 hg.2 h1 h2 (box (by rw [hx]; rfl)) (box rfl) rfl (box HV.out.symm)
      · rcases hy : fdtD daN L with _ | y
        · rw [hx, hy] at HV
          exact mLife3 a cap L v w S hv hF hW c (box hc) hg.1 hg.2 h1 h2 (box (by rw [hx]; rfl)) (box (by rw [hy]; rfl)) rfl (box HV.out.symm)
        · rw [hx, hy] at HV
          exact mLife4 a cap L v w S hv hF hW c (box hc) hg.1 hg.2 h1 h2 (box (by rw [hx]; rfl)) (box (by rw [hy]; rfl)) (fdt_bd hx) (fdt_bd hy) (box (by rw [← Int.sub_eq_add_neg]; exact HV.out))
theorem mDate_any (a : Option Addr) (cap : Nat) (L : List F) (r v : Int) (w : World) (S : Box (Sm L)) (hv : Box (∀ nm, ∀ x ∈ getL nm L, x.size ≤ 65000)) (hF : Box (Fs w a L)) (hW : Box (Tabs w)) (HV : Box (dateV (fdtD daN L) r = v)) :
    Calls Tryd.prog 12 #[.slice a L.length cap, .int .i64 r] w fun e w' => e = .returned (.int .i64 v) ∧ Below w.heap.size w w' := by
  rcases hd : fdtD daN L with _ | d
  · have HD : Box (numT (fdtD daN L) = .tuple #[.int .i64 0, .bool false]) := box (by rw [hd]; rfl)
    have HR : Box (r = v) := box (by rw [← HV.out, hd]; rfl)
    clear hd
    go_enter Tryd.func12, Tryd.ntmps12
    go_wp2_with fail
    refine (mFdt_is S (box (by decide)) (box (hv.out daN)) hF hW HD).mono ?_; rintro e w1 ⟨rfl, hb1⟩
    have B1 := box hb1
    clear hb1
    go_wp2
    go_ret
    exact ⟨ret_int HR.out, B1.out⟩
  · have HD : Box (numT (fdtD daN L) = .tuple #[.int .i64 d, .bool true]) := box (by rw [hd]; rfl)
    have HR : Box (d = v) := box (by rw [← HV.out, hd]; rfl)
    clear hd
    go_enter Tryd.func12, Tryd.ntmps12
    go_wp2_with fail
    refine (mFdt_is S (box (by decide)) (box (hv.out daN)) hF hW HD).mono ?_; rintro e w1 ⟨rfl, hb1⟩
    have B1 := box hb1
    clear hb1
    go_wp2
    go_ret
    exact ⟨ret_int HR.out, B1.out⟩
end
section
open Go.RowKit
theorem age_out23 {d : Option Int} {n q r t : Int} (h : ¬ (0 ≤ q ∧ q ≤ r ∧ r ≤ t ∧ t ≤ 1099511627776)) : ageV d n q r t = 2147483647 := by unfold ageV; rw [if_neg h]
theorem age_in23 {d : Option Int} {n q r t : Int} (h0 : 0 ≤ q) (h1 : q ≤ r) (h2 : r ≤ t) (h3 : t ≤ 1099511627776) : ageV d n q r t = satS (maxI (maxI 0 (r - dateV d r)) (n + r - q) + t - r) := by unfold ageV; rw [if_pos ⟨h0, h1, h2, h3⟩]
theorem date_bd23 {nm : ByteArray} {L : List F} {r : Int} (h0 : 0 ≤ r) (h1 : r ≤ 1099511627776) : 0 ≤ dateV (fdtD nm L) r ∧ dateV (fdtD nm L) r ≤ 1099511627776 := by
  unfold dateV
  cases hd : fdtD nm L with
  | none => exact ⟨h0, h1⟩
  | some d =>
    have := fdt_bd hd
    show 0 ≤ d ∧ d ≤ 1099511627776
    omega
theorem mAge_out (a : Option Addr) (cap : Nat) (L : List F) (q r t : Int) (w : World) (h : ¬ (0 ≤ q ∧ q ≤ r ∧ r ≤ t ∧ t ≤ 1099511627776)) :
    Calls Tryd.prog 15 #[.slice a L.length cap, .int .i64 q, .int .i64 r, .int .i64 t] w fun e w' => e = .returned (.int .i64 2147483647) ∧ Below w.heap.size w w' := by
  by_cases h0 : q < 0
  · clear h
    go_enter Tryd.func15, Tryd.ntmps15
    go_wp2
    go_ret
    exact ⟨rfl, Below.refl _ _⟩
  · by_cases h1 : r < q
    · clear h
      go_enter Tryd.func15, Tryd.ntmps15
      go_wp2
      go_ret
      exact ⟨rfl, Below.refl _ _⟩
    · by_cases h2 : t < r
      · clear h
        go_enter Tryd.func15, Tryd.ntmps15
        go_wp2
        go_ret
        exact ⟨rfl, Below.refl _ _⟩
      · have h3 : (1099511627776 : Int) < t := by omega
        clear h
        go_enter Tryd.func15, Tryd.ntmps15
        go_wp2
        go_ret
        exact ⟨rfl, Below.refl _ _⟩
theorem mAge_in (a : Option Addr) (cap : Nat) (L : List F) (q r t v D n : Int) (w : World) (S : Box (Sm L)) (hv : Box (∀ nm, ∀ x ∈ getL nm L, x.size ≤ 65000)) (hF : Box (Fs w a L)) (hW : Box (Tabs w))
    (h0 : 0 ≤ q) (h1 : q ≤ r) (h2 : r ≤ t) (h3 : t ≤ 1099511627776) (HD : Box (dateV (fdtD daN L) r = D)) (hD0 : 0 ≤ D) (hD1 : D ≤ 1099511627776) (HN : Box (statD L = n)) (hn0 : 0 ≤ n) (hn1 : n ≤ 2147483647) (HV : Box (satS (maxI (maxI 0 (r - D)) (n + r - q) + t - r) = v)) :
    Calls Tryd.prog 15 #[.slice a L.length cap, .int .i64 q, .int .i64 r, .int .i64 t] w fun e w' => e = .returned (.int .i64 v) ∧ Below w.heap.size w w' := by
  have i0 : ¬ q < 0 := by omega
  have i1 : ¬ r < q := by omega
  have i2 : ¬ t < r := by omega
  have i3 : ¬ (1099511627776 : Int) < t := by omega
  go_enter Tryd.func15, Tryd.ntmps15
  go_wp2_with fail
  refine (mDate_any a cap L r D _ S hv hF hW HD).mono ?_; rintro e w1 ⟨rfl, hb1⟩
  have B1 := box hb1
  have F1 := box (hF.out.below hb1)
  clear hb1
  go_wp2_with fail
  all_goals (refine (mStat_any a cap L n _ S (box (hv.out agN)) F1 HN).mono ?_; rintro e w2 ⟨rfl, hb2⟩)
  all_goals have B2 := box (B1.out.trans (hb2.mono B1.out.size))
  all_goals clear hb2
  all_goals go_wp2_with fail
  all_goals (refine (mSat_any _ _ _ (by omega)).mono ?_; rintro e w3 ⟨rfl, rfl⟩)
  all_goals go_wp2
  all_goals go_ret
  all_goals exact ⟨ret_int (by rw [← HV.out]; unfold satS maxI; split <;> (try split) <;> (try split) <;> (try split) <;> omega), B2.out⟩
theorem mAge_any (a : Option Addr) (cap : Nat) (L : List F) (q r t v : Int) (w : World) (S : Box (Sm L)) (hv : Box (∀ nm, ∀ x ∈ getL nm L, x.size ≤ 65000)) (hF : Box (Fs w a L)) (hW : Box (Tabs w)) (HV : Box (ageV (fdtD daN L) (statD L) q r t = v)) :
    Calls Tryd.prog 15 #[.slice a L.length cap, .int .i64 q, .int .i64 r, .int .i64 t] w fun e w' => e = .returned (.int .i64 v) ∧ Below w.heap.size w w' := by
  by_cases h : 0 ≤ q ∧ q ≤ r ∧ r ≤ t ∧ t ≤ 1099511627776
  · have hd := date_bd23 (nm := daN) (L := L) (show 0 ≤ r by omega) (show r ≤ 1099511627776 by omega)
    have hn := stat_bd L
    exact mAge_in a cap L q r t v _ _ w S hv hF hW h.1 h.2.1 h.2.2.1 h.2.2.2 (box rfl) hd.1 hd.2 (box rfl) hn.1 hn.2 (box (by rw [← HV.out, age_in23 h.1 h.2.1 h.2.2.1 h.2.2.2]))
  · rw [age_out23 h] at HV
    exact (mAge_out a cap L q r t w h).mono fun e w' ⟨h1, h2⟩ => ⟨by rw [h1, HV.out], h2⟩
end
section
open Go.RowKit
theorem rFold22_is {a b : ByteArray} {q : Bool} {w : World} (ha : a.size ≤ 65536) (hb : b.size ≤ 65536) (h : Box (foldL a.data.toList b.data.toList = q)) :
    Calls Tryd.prog 54 #[.string a, .string b] w fun e w' => e = .returned (.bool q) ∧ Below w.heap.size w w' :=
  (rFold_any a b w (by omega) (by omega)).mono fun e w' ⟨h1, h2⟩ => ⟨by rw [h1, h.out], h2⟩
theorem rToken22_is {s : ByteArray} {b : Bool} {w : World} (hs : s.size ≤ 65536) (h : Box (tokL s.data.toList = b)) :
    Calls Tryd.prog 78 #[.string s] w fun e w' => e = .returned (.bool b) ∧ w = w' :=
  (rToken_any s w (by unfold maxLen; omega)).mono fun e w' ⟨h1, h2⟩ => ⟨by rw [h1, h.out], h2⟩
theorem rUnq22_is {s : ByteArray} {o : Option (List UInt8)} {w : World} (hs : s.size ≤ 65536) (h : Box (unqL s.data.toList = o)) :
    Calls Tryd.prog 79 #[.string s] w fun e w' => e = .returned (optV o) ∧ Below w.heap.size w w' :=
  (rUnquote_any s w (by omega)).mono fun e w' ⟨h1, h2⟩ => ⟨by rw [h1, h.out], h2⟩
theorem rNum22_is {s : ByteArray} {o : Option Int} {w : World} (hs : s.size ≤ 65536) (h : Box (numL s.data.toList = o)) :
    Calls Tryd.prog 27 #[.string s] w fun e w' => e = .returned (numT o) ∧ w = w' :=
  (rNumber_any s w (by unfold maxLen; omega)).mono fun e w' ⟨h1, h2⟩ => ⟨by rw [h1, h.out], h2⟩
/-- the outer loop: no directive of the name so far -/
def DirRel (n : List UInt8) (K : List ByteArray) (w : World) (i : Value) (wr : World) : Prop :=
  ∃ j : Nat, i = .int .i64 j ∧ j ≤ K.length ∧ Box (dirD n ((toL K).take j) = none) ∧ Box (Below w.heap.size w wr)
theorem isD_at {m n : List UInt8} {k : Nat} {t : List UInt8} (h : namD m = t) : isD n m = (!t.isEmpty && foldL t n) := by unfold isD; rw [h]
set_option maxHeartbeats 4000000 in
theorem rDir_any (a : Option Addr) (cap : Nat) (K : List ByteArray) (n : ByteArray) (w : World) (hl : K.length ≤ 65536) (hn : n.size ≤ 65536) (HZ : Box (∀ m ∈ K, m.size ≤ 65000)) (hF : Box (Ss w a K)) :
    Calls Tryd.prog 35 #[.slice a K.length cap, .string n] w fun e w' => e = .returned (optV (dirD n.data.toList (toL K))) ∧ Below w.heap.size w w' := by
  go_enter Tryd.func35, Tryd.ntmps35
  go_wp2
  go_loopw [6] (fun i wr => DirRel n.data.toList K w i wr) (fun i _ => K.length - (intOf i).toNat)
  case atStart => exact ⟨0, rfl, Nat.zero_le _, box rfl, box (Below.refl _ _)⟩
  case round =>
    obtain ⟨j, rfl, hj, hD, hbl⟩ := hrel
    by_cases hlt : j < K.length
    · have hji : (j : Int) < (K.length : Int) := by omega
      obtain ⟨s, hs⟩ : ∃ s, K[j] = s := ⟨_, rfl⟩
      have hsz : s.size ≤ 65000 := by rw [← hs]; exact HZ.out _ (List.getElem_mem hlt)
      obtain ⟨g, off, hga, cA⟩ := (hF.out.below hbl.out) j hlt
      cases hga
      rw [hs] at cA
      have HTL : Box ((toL K)[j]'(by rw [toL_len]; exact hlt) = s.data.toList) := box (by rw [toL_at hlt, hs])
      have HLT : Box (j < (toL K).length) := box (by rw [toL_len]; exact hlt)
      have hz : s.data.toList.length = s.size := by simp
      clear hs
      go_wp2
      go_loop [7] (fun i => ∃ k : Nat, k ≤ s.size ∧ i = .int .i64 k ∧ Box (NamAt s.data.toList k)) (fun i => s.size - (intOf i).toNat)
      case atStart => exact ⟨0, Nat.zero_le _, rfl, box rfl⟩
      case round =>
        obtain ⟨k, hk, rfl, hall⟩ := hrel
        by_cases hkt : k < s.size
        · have hki : (k : Int) < (s.size : Int) := by omega
          have hb := byte_bd s k hkt
          rcases hp : tokI (s[k].toNat) with _ | _
          · have HC := nam_cut (l := s.data.toList) (k := k) (by omega) hall.out (fun h => by rw [Array.getElem_toList]; exact hp)
            have HTB : ∀ w : World, Calls Tryd.prog 53 #[.int .u8 (s[k].toNat : Int)] w fun e w' => e = .returned (.bool false) ∧ w = w' := fun w => by rw [← hp]; exact rTokenByte_any _ w hb.1 hb.2
            clear hp
            obtain ⟨y, hy⟩ : ∃ y, s.extract 0 k = y := ⟨_, rfl⟩
            obtain ⟨z, hzz⟩ : ∃ z, s.extract k s.size = z := ⟨_, rfl⟩
            have hyl : namD s.data.toList = y.data.toList := by rw [← hy, ext_bs, bs_toList, List.drop_zero]; exact HC.1
            have hzl : rstD s.data.toList = z.data.toList := by rw [← hzz, ext_drop21]; exact HC.2
            have hyk : y.data.toList.length = k := by rw [← hyl, HC.1, List.length_take, hz]; omega
            have hys : y.size ≤ 65536 := by
              have e1 : y.data.toList.length = y.size := by simp
              rw [← e1, hyk]; omega
            have HI := isD_at (n := n.data.toList) (k := k) hyl
            have b0 : (0 : Int) ≤ (k : Int) := by omega
            have b1 : (k : Int) ≤ (s.size : Int) := by omega
            by_cases hk0 : k = 0
            · have HM : Box (dirD n.data.toList ((toL K).take (j + 1)) = none) := box (dir_more HLT.out hD.out (by
                have e : y.data.toList = [] := List.eq_nil_of_length_eq_zero (by rw [hyk]; exact hk0)
                rw [HTL.out, HI, e]; rfl))
              have k0i : ¬ (0 : Int) < (k : Int) := by omega
              clear HI HC hyl hzl hyk hz hall hk0 HTL HLT
              go_wp2_with (go_at_call 53; refine (HTB _).mono ?_; rintro e w' ⟨rfl, rfl⟩)
              go_roundw
              case rel => exact ⟨j + 1, by go_num, hlt, HM, hbl⟩
              case measure => simp [intOf]; omega
            · have k0i : (0 : Int) < (k : Int) := by omega
              have hye : y.data.toList.isEmpty = false := by
                cases hq : y.data.toList with
                | nil => rw [hq] at hyk; exact absurd hyk.symm hk0
                | cons c r => rfl
              rw [hye, Bool.not_false, Bool.true_and] at HI
              rcases hf : foldL y.data.toList n.data.toList with _ | _
              · rw [hf] at HI
                have HM : Box (dirD n.data.toList ((toL K).take (j + 1)) = none) := box (dir_more HLT.out hD.out (by rw [HTL.out]; exact HI))
                have HFF := box hf
                clear HI HC hyl hzl hyk hz hall hk0 hye HTL HLT hf
                go_wp2_with (first | (go_at_call 53; refine (HTB _).mono ?_; rintro e w' ⟨rfl, rfl⟩) | (go_at_call 54; refine (rFold22_is hys hn HFF).mono ?_; rintro e w2 ⟨rfl, hb2⟩; have B2 := box (hbl.out.trans (hb2.mono hbl.out.size)); have c2 := (hb2.cell (cell_lt cA)).trans cA; clear hb2 cA))
                go_roundw
                case rel => exact ⟨j + 1, by go_num, hlt, HM, B2⟩
                case measure => simp [intOf]; omega
              · rw [hf] at HI
                have HM : Box (dirD n.data.toList (toL K) = some z.data.toList) := box (by
                  rw [dir_hit HLT.out hD.out (by rw [HTL.out]; exact HI), HTL.out, hzl])
                have HFF := box hf
                clear HI HC hyl hzl hyk hz hall hk0 hye HTL HLT hf
                go_wp2_with (first | (go_at_call 53; refine (HTB _).mono ?_; rintro e w' ⟨rfl, rfl⟩) | (go_at_call 54; refine (rFold22_is hys hn HFF).mono ?_; rintro e w2 ⟨rfl, hb2⟩; have B2 := box (hbl.out.trans (hb2.mono hbl.out.size)); have c2 := (hb2.cell (cell_lt cA)).trans cA; clear hb2 cA))
                go_ret2
                exact ⟨by rw [HM.out]; rfl, B2.out⟩
          · have HN : Box (NamAt s.data.toList (k + 1)) := box (all_more hall.out hkt hp)
            have HTB : ∀ w : World, Calls Tryd.prog 53 #[.int .u8 (s[k].toNat : Int)] w fun e w' => e = .returned (.bool true) ∧ w = w' := fun w => by rw [← hp]; exact rTokenByte_any _ w hb.1 hb.2
            clear hp hz hall
            go_wp2_with (go_at_call 53; refine (HTB _).mono ?_; rintro e w' ⟨rfl, rfl⟩)
            go_round
            case rel => exact ⟨k + 1, by omega, by go_num, HN⟩
            case measure => simp [intOf]; omega
        · have hki : ¬ (k : Int) < (s.size : Int) := by omega
          have HC := nam_cut (l := s.data.toList) (k := k) (by omega) hall.out (fun h => absurd h (by rw [hz]; exact hkt))
          obtain ⟨y, hy⟩ : ∃ y, s.extract 0 k = y := ⟨_, rfl⟩
          obtain ⟨z, hzz⟩ : ∃ z, s.extract k s.size = z := ⟨_, rfl⟩
          have hyl : namD s.data.toList = y.data.toList := by rw [← hy, ext_bs, bs_toList, List.drop_zero]; exact HC.1
          have hzl : rstD s.data.toList = z.data.toList := by rw [← hzz, ext_drop21]; exact HC.2
          have hyk : y.data.toList.length = k := by rw [← hyl, HC.1, List.length_take, hz]; omega
          have hys : y.size ≤ 65536 := by
            have e1 : y.data.toList.length = y.size := by simp
            rw [← e1, hyk]; omega
          have HI := isD_at (n := n.data.toList) (k := k) hyl
          have b0 : (0 : Int) ≤ (k : Int) := by omega
          have b1 : (k : Int) ≤ (s.size : Int) := by omega
          by_cases hk0 : k = 0
          · have HM : Box (dirD n.data.toList ((toL K).take (j + 1)) = none) := box (dir_more HLT.out hD.out (by
              have e : y.data.toList = [] := List.eq_nil_of_length_eq_zero (by rw [hyk]; exact hk0)
              rw [HTL.out, HI, e]; rfl))
            have k0i : ¬ (0 : Int) < (k : Int) := by omega
            clear HI HC hyl hzl hyk hz hall hk0 HTL HLT
            go_wp2
            go_roundw
            case rel => exact ⟨j + 1, by go_num, hlt, HM, hbl⟩
            case measure => simp [intOf]; omega
          · have k0i : (0 : Int) < (k : Int) := by omega
            have hye : y.data.toList.isEmpty = false := by
              cases hq : y.data.toList with
              | nil => rw [hq] at hyk; exact absurd hyk.symm hk0
              | cons c r => rfl
            rw [hye, Bool.not_false, Bool.true_and] at HI
            rcases hf : foldL y.data.toList n.data.toList with _ | _
            · rw [hf] at HI
              have HM : Box (dirD n.data.toList ((toL K).take (j + 1)) = none) := box (dir_more HLT.out hD.out (by rw [HTL.out]; exact HI))
              have HFF := box hf
              clear HI HC hyl hzl hyk hz hall hk0 hye HTL HLT hf
              go_wp2_with (go_at_call 54; refine (rFold22_is hys hn HFF).mono ?_; rintro e w2 ⟨rfl, hb2⟩; have B2 := box (hbl.out.trans (hb2.mono hbl.out.size)); have c2 := (hb2.cell (cell_lt cA)).trans cA; clear hb2 cA)
              go_roundw
              case rel => exact ⟨j + 1, by go_num, hlt, HM, B2⟩
              case measure => simp [intOf]; omega
            · rw [hf] at HI
              have HM : Box (dirD n.data.toList (toL K) = some z.data.toList) := box (by
                rw [dir_hit HLT.out hD.out (by rw [HTL.out]; exact HI), HTL.out, hzl])
              have HFF := box hf
              clear HI HC hyl hzl hyk hz hall hk0 hye HTL HLT hf
              go_wp2_with (go_at_call 54; refine (rFold22_is hys hn HFF).mono ?_; rintro e w2 ⟨rfl, hb2⟩; have B2 := box (hbl.out.trans (hb2.mono hbl.out.size)); have c2 := (hb2.cell (cell_lt cA)).trans cA; clear hb2 cA)
              go_ret2
              exact ⟨by rw [HM.out]; rfl, B2.out⟩
    · have hji : ¬ (j : Int) < (K.length : Int) := by omega
      have HR : Box (dirD n.data.toList (toL K) = none) := box (by
        have := hD.out
        rwa [List.take_of_length_le (by rw [toL_len]; omega)] at this)
      go_wp2
      go_ret2
      exact ⟨by rw [HR.out]; rfl, hbl.out⟩
theorem optV_some22 (s : ByteArray) : optV (some s.data.toList) = .tuple #[.string s, .bool true] := rfl
theorem rArg_any (s : ByteArray) (w : World) (hs : s.size ≤ 65000) :
    Calls Tryd.prog 55 #[.string s] w fun e w' => e = .returned (optV (argD s.data.toList)) ∧ Below w.heap.size w w' := by
  by_cases hn : s.data.toList = []
  · have h0 : (s.toList == []) = true := by rw [toList_data, hn]; rfl
    have HA : Box (argD s.data.toList = none) := box (by rw [hn]; rfl)
    clear hn
    go_enter Tryd.func55, Tryd.ntmps55
    go_wp2
    go_ret2
    exact ⟨by rw [HA.out]; rfl, Below.refl _ _⟩
  · have h0 : (s.toList == []) = false := by rw [toList_data, beq_eq_false_iff_ne]; exact hn
    have hz : s.data.toList.length = s.size := by simp
    have hp : 0 < s.size := by
      rw [← hz]; exact List.length_pos_iff.2 hn
    have hpi : (0 : Int) < (s.size : Int) := by omega
    have hcons : s.data.toList = s[0] :: s.data.toList.drop 1 := drop_cons s 0 hp
    have hA := argD_cons s[0] (s.data.toList.drop 1)
    rw [← hcons] at hA
    by_cases hc : s[0] = 61
    · have h1 : ((s[0].toNat : Int) != 61) = false := by rw [hc]; rfl
      rw [if_pos hc] at hA
      obtain ⟨x, hx⟩ : ∃ x, s.extract 1 s.size = x := ⟨_, rfl⟩
      have hxl : x.data.toList = s.data.toList.drop 1 := by rw [← hx]; exact ext_drop21 1
      have hxs : x.size ≤ 65536 := by
        have e1 : x.data.toList.length = x.size := by simp
        rw [← e1, hxl, List.length_drop]; omega
      rw [← hxl] at hA
      have h1i : (1 : Int) ≤ (s.size : Int) := by omega
      clear hn hc hcons hxl hz
      rcases ht : tokL x.data.toList with _ | _
      · rw [ht, if_neg (by decide)] at hA
        have HT := box ht
        obtain ⟨o, ho⟩ : ∃ o, unqL x.data.toList = o := ⟨_, rfl⟩
        have HO := box ho
        rw [ho] at hA
        have HA := box hA
        clear ht hA ho
        go_enter Tryd.func55, Tryd.ntmps55
        go_wp2_with fail
        refine (rToken22_is hxs HT).mono ?_; rintro e w1 ⟨rfl, rfl⟩
        go_wp2_with fail
        refine (rUnq22_is hxs HO).mono ?_; rintro e w2 ⟨rfl, hb⟩
        have B := box hb
        clear hb
        rcases o with _ | u
        · unfold optV
          go_wp2
          go_ret2
          exact ⟨by rw [HA.out]; rfl, B.out⟩
        · unfold optV
          go_wp2
          go_ret2
          exact ⟨by rw [HA.out]; rfl, B.out⟩
      · rw [ht, if_pos rfl] at hA
        have HT := box ht
        have HA := box hA
        clear ht hA
        go_enter Tryd.func55, Tryd.ntmps55
        go_wp2_with fail
        refine (rToken22_is hxs HT).mono ?_; rintro e w1 ⟨rfl, rfl⟩
        go_wp2
        go_ret2
        exact ⟨by rw [HA.out]; rfl, Below.refl _ _⟩
    · have h1 : ((s[0].toNat : Int) != 61) = true := by
        rw [bne_iff_ne]; intro e
        exact hc (byte_eq (n := 61) (by simpa using e) (by decide))
      rw [if_neg hc] at hA
      have HA := box hA
      clear hn hc hcons hA hz
      go_enter Tryd.func55, Tryd.ntmps55
      go_wp2
      go_ret2
      exact ⟨by rw [HA.out]; rfl, Below.refl _ _⟩
theorem rArg_is {s : ByteArray} {o : Option (List UInt8)} {w : World} (hs : s.size ≤ 65000) (h : Box (argD s.data.toList = o)) :
    Calls Tryd.prog 55 #[.string s] w fun e w' => e = .returned (optV o) ∧ Below w.heap.size w w' :=
  (rArg_any s w hs).mono fun e w' ⟨h1, h2⟩ => ⟨by rw [h1, h.out], h2⟩
theorem rDir_is {a : Option Addr} {cap m : Nat} {K : List ByteArray} {n : ByteArray} {o : Option (List UInt8)} {w : World} (hm : Box (K.length = m)) (hl : m ≤ 65536) (hn : n.size ≤ 65536) (HZ : Box (∀ m ∈ K, m.size ≤ 65000)) (hF : Box (Ss w a K)) (h : Box (dirD n.data.toList (toL K) = o)) :
    Calls Tryd.prog 35 #[.slice a m cap, .string n] w fun e w' => e = .returned (optV o) ∧ Below w.heap.size w w' := by
  have := rDir_any a cap K n w (by rw [hm.out]; exact hl) hn HZ hF
  rw [h.out, hm.out] at this
  exact this
theorem dir_len {n : List UInt8} {M : List (List UInt8)} {r : List UInt8} (h : dirD n M = some r) : ∃ m ∈ M, r.length ≤ m.length := by
  unfold dirD at h
  obtain ⟨m, hm, rfl⟩ := Option.map_eq_some_iff.1 h
  exact ⟨m, List.mem_of_find?_eq_some hm, rst_len m⟩
theorem rSec_any (a : Option Addr) (cap m : Nat) (K : List ByteArray) (n : ByteArray) (bare bad : Int) (w : World) (hm : Box (K.length = m)) (hl : m ≤ 65536) (hn : n.size ≤ 65536) (HZ : Box (∀ m ∈ K, m.size ≤ 65000)) (hF : Box (Ss w a K)) :
    Calls Tryd.prog 36 #[.slice a m cap, .string n, .int .i64 bare, .int .i64 bad] w fun e w' => e = .returned (.int .i64 (secD n.data.toList bare bad (toL K))) ∧ Below w.heap.size w w' := by
  obtain ⟨o, ho⟩ : ∃ o, dirD n.data.toList (toL K) = o := ⟨_, rfl⟩
  have HO := box ho
  have HSE : Box (secD n.data.toList bare bad (toL K) = secO bare bad o) := box (by unfold secD; rw [ho])
  rcases o with _ | r
  · clear ho
    go_enter Tryd.func36, Tryd.ntmps36
    go_wp2_with fail
    refine (rDir_is hm hl hn HZ hF HO).mono ?_; rintro e w1 ⟨rfl, hb⟩
    have B := box hb
    clear hb
    unfold optV
    go_wp2
    go_ret
    exact ⟨by rw [HSE.out]; rfl, B.out⟩
  · have hrz : (bs r).size ≤ 65000 := by
      obtain ⟨x, hx, hle⟩ := dir_len ho
      unfold toL at hx
      obtain ⟨y, hy, rfl⟩ := List.mem_map.1 hx
      have h1 := HZ.out y hy
      have e1 : y.data.toList.length = y.size := by simp
      have e2 : (bs r).size = r.length := rfl
      omega
    obtain ⟨s, hs⟩ : ∃ s, bs r = s := ⟨_, rfl⟩
    have hrs : r = s.data.toList := by rw [← hs, bs_toList]
    rw [hs] at hrz
    subst hrs
    clear ho hs
    have hse : bs s.data.toList = s := bs_all22 s
    by_cases he : s.data.toList = []
    · have h0 : (s.toList == []) = true := by rw [toList_data, he]; rfl
      have HN : Box (secO bare bad (some s.data.toList) = bare) := box (by show numD bare bad _ = _; unfold numD; rw [if_pos he])
      clear he
      go_enter Tryd.func36, Tryd.ntmps36
      go_wp2_with fail
      refine (rDir_is hm hl hn HZ hF HO).mono ?_; rintro e w1 ⟨rfl, hb⟩
      have B := box hb
      clear hb
      rw [optV_some22]
      clear hse
      go_wp2
      go_ret
      exact ⟨by rw [HSE.out, HN.out]; rfl, B.out⟩
    · have h0 : (s.toList == []) = false := by rw [toList_data, beq_eq_false_iff_ne]; exact he
      have hN : secO bare bad (some s.data.toList) = (numL ((argD s.data.toList).getD [])).getD bad := numD_alt he bare bad
      have hal := argD_len s.data.toList
      have hsz : s.data.toList.length = s.size := by simp
      clear he
      obtain ⟨o, ho⟩ : ∃ o, argD s.data.toList = o := ⟨_, rfl⟩
      have HA := box ho
      rw [ho] at hN hal
      clear ho
      rcases o with _ | u
      · have HN : Box (secO bare bad (some s.data.toList) = bad) := box (by rw [hN]; rfl)
        have HU : Box (numL (⟨#[]⟩ : ByteArray).data.toList = none) := box rfl
        have h00 : (⟨#[]⟩ : ByteArray).size ≤ 65536 := by decide
        clear hN hal hsz
        go_enter Tryd.func36, Tryd.ntmps36
        go_wp2_with fail
        refine (rDir_is hm hl hn HZ hF HO).mono ?_; rintro e w1 ⟨rfl, hb⟩
        have B := box hb
        clear hb
        rw [optV_some22]
        clear hse
        go_wp2_with fail
        refine (rArg_is hrz HA).mono ?_; rintro e w2 ⟨rfl, hb⟩
        have B2 := box (B.out.trans (hb.mono B.out.size))
        clear hb
        unfold optV
        go_wp2_with fail
        refine (rNum22_is h00 HU).mono ?_; rintro e w3 ⟨rfl, rfl⟩
        unfold numT numV
        go_wp2
        go_ret
        exact ⟨by rw [HSE.out, HN.out]; rfl, B2.out⟩
      · have hus : (bs u).size ≤ 65536 := by
          have e2 : (bs u).size = u.length := rfl
          simp only [Option.getD_some] at hal
          omega
        simp only [Option.getD_some] at hN
        obtain ⟨v, hv⟩ : ∃ v, numL u = v := ⟨_, rfl⟩
        have HU : Box (numL (bs u).data.toList = v) := box hv
        rw [hv] at hN
        have HN := box hN
        clear hN hal hsz hv
        rcases v with _ | v
        · go_enter Tryd.func36, Tryd.ntmps36
          go_wp2_with fail
          refine (rDir_is hm hl hn HZ hF HO).mono ?_; rintro e w1 ⟨rfl, hb⟩
          have B := box hb
          clear hb
          rw [optV_some22]
          clear hse
          go_wp2_with fail
          refine (rArg_is hrz HA).mono ?_; rintro e w2 ⟨rfl, hb⟩
          have B2 := box (B.out.trans (hb.mono B.out.size))
          clear hb
          unfold optV
          go_wp2_with fail
          refine (rNum22_is hus HU).mono ?_; rintro e w3 ⟨rfl, rfl⟩
          unfold numT numV
          go_wp2
          go_ret
          exact ⟨by rw [HSE.out, HN.out]; rfl, B2.out⟩
        · go_enter Tryd.func36, Tryd.ntmps36
          go_wp2_with fail
          refine (rDir_is hm hl hn HZ hF HO).mono ?_; rintro e w1 ⟨rfl, hb⟩
          have B := box hb
          clear hb
          rw [optV_some22]
          clear hse
          go_wp2_with fail
          refine (rArg_is hrz HA).mono ?_; rintro e w2 ⟨rfl, hb⟩
          have B2 := box (B.out.trans (hb.mono B.out.size))
          clear hb
          unfold optV
          go_wp2_with fail
          refine (rNum22_is hus HU).mono ?_; rintro e w3 ⟨rfl, rfl⟩
          unfold numT numV
          go_wp2
          go_ret
          exact ⟨by rw [HSE.out, HN.out]; rfl, B2.out⟩
theorem rSec_is {a : Option Addr} {cap m : Nat} {K : List ByteArray} {n : ByteArray} {bare bad v : Int} {w : World} (hm : Box (K.length = m)) (hl : m ≤ 65536) (hn : n.size ≤ 65536) (HZ : Box (∀ m ∈ K, m.size ≤ 65000)) (hF : Box (Ss w a K)) (h : Box (secD n.data.toList bare bad (toL K) = v)) :
    Calls Tryd.prog 36 #[.slice a m cap, .string n, .int .i64 bare, .int .i64 bad] w fun e w' => e = .returned (.int .i64 v) ∧ Below w.heap.size w w' :=
  (rSec_any a cap m K n bare bad w hm hl hn HZ hF).mono fun e w' ⟨h1, h2⟩ => ⟨by rw [h1, h.out], h2⟩
end
section
open Go.RowKit
theorem rAll22_is {a : Option Addr} {cap n : Nat} {L : List F} {nm : ByteArray} {K : List ByteArray} {w : World} (S : Box (Sm L)) (hv : Box (∀ x ∈ getL nm L, x.size ≤ 65000)) (M : nm.size ≤ 65536) (hF : Box (Fs w a L)) (h : Box (allB nm L = K)) (hn : Box (K.length = n)) :
    Calls Tryd.prog 34 #[.slice a L.length cap, .string nm] w fun e w' => ∃ p c, e = .returned (.slice p n c) ∧ Ss w' p K ∧ Below w.heap.size w w' :=
  (rAll_any a cap L nm w S hv (box M) hF).mono fun e w' ⟨v, h1, h2, h3⟩ => by
    rw [h.out] at h2
    obtain ⟨p, c, rfl, h4, h5⟩ := h2.ss
    rw [hn.out] at h1
    exact ⟨p, c, h1, h4, h3⟩
theorem rDir_b {a : Option Addr} {cap m : Nat} {K : List ByteArray} {n : ByteArray} {b : Bool} {w : World} (hm : Box (K.length = m)) (hl : m ≤ 65536) (hn : n.size ≤ 65536) (HZ : Box (∀ m ∈ K, m.size ≤ 65000)) (hF : Box (Ss w a K)) (h : Box ((dirD n.data.toList (toL K)).isSome = b)) :
    Calls Tryd.prog 35 #[.slice a m cap, .string n] w fun e w' => ∃ x, e = .returned (.tuple #[.string x, .bool b]) ∧ Below w.heap.size w w' :=
  (rDir_is hm hl hn HZ hF (o := dirD n.data.toList (toL K)) (box rfl)).mono fun e w' ⟨h1, h2⟩ => by
    have hb := h.out
    rcases hd : dirD n.data.toList (toL K) with _ | r
    · rw [hd] at hb h1; cases hb; exact ⟨_, h1, h2⟩
    · rw [hd] at hb h1; cases hb; exact ⟨_, h1, h2⟩
set_option maxHeartbeats 8000000 in
theorem rResp_any (a : Option Addr) (cap : Nat) (L : List F) (w : World) (S : Box (Sm L)) (hv : Box (∀ x ∈ getL ccN L, x.size ≤ 65000)) (hF : Box (Fs w a L)) (c : CT) (HC : Box (respC (allL ccN L) = c)) :
    Calls Tryd.prog 22 #[.slice a L.length cap] w fun e w' => e = .returned (ctV c) ∧ Below w.heap.size w w' := by
  obtain ⟨K, hK⟩ : ∃ K, allB ccN L = K := ⟨_, rfl⟩
  obtain ⟨n, hn⟩ : ∃ n, K.length = n := ⟨_, rfl⟩
  have HM : Box (allL ccN L = toL K) := box (by rw [← hK, toL_all])
  have HZ : Box (∀ m ∈ K, m.size ≤ 65000) := box (by rw [← hK]; exact allB_small22 hv.out)
  have hn64 : n ≤ 64 := by rw [← hn, ← hK]; unfold allB allL; rw [List.length_map, List.length_take]; omega
  have hn6 : n ≤ 65536 := by omega
  have HK := box hK
  have HNn := box hn
  have hl := S.out.1
  have hcc : ccN.size ≤ 65536 := by decide
  obtain ⟨b0, hb0⟩ : ∃ b, (dirD nsN (toL K)).isSome = b := ⟨_, rfl⟩
  obtain ⟨b1, hb1⟩ : ∃ b, (dirD ncN (toL K)).isSome = b := ⟨_, rfl⟩
  obtain ⟨b2, hb2⟩ : ∃ b, (dirD mrN (toL K)).isSome = b := ⟨_, rfl⟩
  obtain ⟨b3, hb3⟩ : ∃ b, (dirD prN (toL K)).isSome = b := ⟨_, rfl⟩
  obtain ⟨b4, hb4⟩ : ∃ b, (dirD pvN (toL K)).isSome = b := ⟨_, rfl⟩
  obtain ⟨b5, hb5⟩ : ∃ b, (dirD pbN (toL K)).isSome = b := ⟨_, rfl⟩
  obtain ⟨b6, hb6⟩ : ∃ b, (dirD ocN (toL K)).isSome = b := ⟨_, rfl⟩
  obtain ⟨b7, hb7⟩ : ∃ b, secD maN 0 0 (toL K) = b := ⟨_, rfl⟩
  obtain ⟨b8, hb8⟩ : ∃ b, secD smN 0 0 (toL K) = b := ⟨_, rfl⟩
  obtain ⟨b9, hb9⟩ : ∃ b, secD mfN 2147483647 2147483647 (toL K) = b := ⟨_, rfl⟩
  obtain ⟨b10, hb10⟩ : ∃ b, secD msN 2147483647 0 (toL K) = b := ⟨_, rfl⟩
  have HCC : Box (c = ⟨b0 || decide (64 ≤ n), b1, b2, b3, b4, b5, b6, b7, b8, b9, b10⟩) := box (by
    rw [← HC.out, HM.out]; unfold respC ctl0; rw [toL_len, hn, hb0, hb1, hb2, hb3, hb4, hb5, hb6, hb7, hb8, hb9, hb10])
  have H0 := box hb0
  have H1 := box hb1
  have H2 := box hb2
  have H3 := box hb3
  have H4 := box hb4
  have H5 := box hb5
  have H6 := box hb6
  have H7 := box hb7
  have H8 := box hb8
  have H9 := box hb9
  have H10 := box hb10
  clear hK hn hb0 hb1 hb2 hb3 hb4 hb5 hb6 hb7 hb8 hb9 hb10
  have R0 : Box (Ct w.heap.size ct0 (w.alloc (.cells (ctA ct0) 31))) := box (Ct.new ct0 w 31)
  have B0 : Box (Below w.heap.size w (w.alloc (.cells (ctA ct0) 31))) := box (below_new w _)
  have F0 := box (hF.out.below B0.out)
  have z0 : (bs nsN).size ≤ 65536 := by decide
  have z1 : (bs ncN).size ≤ 65536 := by decide
  have z2 : (bs mrN).size ≤ 65536 := by decide
  have z3 : (bs prN).size ≤ 65536 := by decide
  have z4 : (bs pvN).size ≤ 65536 := by decide
  have z5 : (bs pbN).size ≤ 65536 := by decide
  have z6 : (bs ocN).size ≤ 65536 := by decide
  have z7 : (bs maN).size ≤ 65536 := by decide
  have z8 : (bs smN).size ≤ 65536 := by decide
  have z9 : (bs mfN).size ≤ 65536 := by decide
  have z10 : (bs msN).size ≤ 65536 := by decide
  go_enter Tryd.func22, Tryd.ntmps22
  go_wp2_with fail
  refine (rAll22_is S hv hcc F0 HK HNn).mono ?_; rintro e w1 ⟨p, cp, rfl, hS1, hb1⟩
  have R1 := box (R0.out.next hb1)
  have B1 := box (B0.out.trans (hb1.mono B0.out.size))
  have S1 := box hS1
  have M0 : Box (Below w1.heap.size w1 (w1.alloc (.cells (ctA ct0) 31))) := box (below_new w1 _)
  have C0 : Box (Ct w1.heap.size ct0 (w1.alloc (.cells (ctA ct0) 31))) := box (Ct.new ct0 w1 31)
  have hg : w.heap.size < w1.heap.size := R1.out.lt
  clear hS1 hb1
  go_wp2_with fail
  refine (rDir_b HNn hn6 z0 HZ (box (S1.out.below M0.out)) H0).mono ?_; rintro e w2 ⟨x0, rfl, hb⟩
  have C0' := C0.out.next hb
  have M1 := box ((M0.out.trans (hb.mono M0.out.size)).setCell (p := ⟨w1.heap.size, 0, none⟩) (Nat.le_refl _) (.bool b0))
  have C1 := box (C0'.set_ns b0)
  obtain ⟨⟨c0, c1, c2, c3, c4, c5, c6, c7, c8, c9, c10⟩, ⟨f0, f1, f2, f3, f4, f5, f6, f7, f8, f9, f10⟩⟩ := C0'
  clear hb C0 M0
  go_wp2_with fail
  clear c0 c1 c2 c3 c4 c5 c6 c7 c8 c9 c10 f0 f1 f2 f3 f4 f5 f6 f7 f8 f9 f10
  refine (rDir_b HNn hn6 z1 HZ (box (S1.out.below M1.out)) H1).mono ?_; rintro e w3 ⟨x1, rfl, hb⟩
  have C1' := C1.out.next hb
  have M2 := box ((M1.out.trans (hb.mono M1.out.size)).setCell (p := ⟨w1.heap.size, 1, none⟩) (Nat.le_refl _) (.bool b1))
  have C2 := box (C1'.set_nc b1)
  obtain ⟨⟨c0, c1, c2, c3, c4, c5, c6, c7, c8, c9, c10⟩, ⟨f0, f1, f2, f3, f4, f5, f6, f7, f8, f9, f10⟩⟩ := C1'
  clear hb C1 M1
  go_wp2_with fail
  clear c0 c1 c2 c3 c4 c5 c6 c7 c8 c9 c10 f0 f1 f2 f3 f4 f5 f6 f7 f8 f9 f10
  refine (rDir_b HNn hn6 z2 HZ (box (S1.out.below M2.out)) H2).mono ?_; rintro e w4 ⟨x2, rfl, hb⟩
  have C2' := C2.out.next hb
  have M3 := box ((M2.out.trans (hb.mono M2.out.size)).setCell (p := ⟨w1.heap.size, 2, none⟩) (Nat.le_refl _) (.bool b2))
  have C3 := box (C2'.set_mr b2)
  obtain ⟨⟨c0, c1, c2, c3, c4, c5, c6, c7, c8, c9, c10⟩, ⟨f0, f1, f2, f3, f4, f5, f6, f7, f8, f9, f10⟩⟩ := C2'
  clear hb C2 M2
  go_wp2_with fail
  clear c0 c1 c2 c3 c4 c5 c6 c7 c8 c9 c10 f0 f1 f2 f3 f4 f5 f6 f7 f8 f9 f10
  refine (rDir_b HNn hn6 z3 HZ (box (S1.out.below M3.out)) H3).mono ?_; rintro e w5 ⟨x3, rfl, hb⟩
  have C3' := C3.out.next hb
  have M4 := box ((M3.out.trans (hb.mono M3.out.size)).setCell (p := ⟨w1.heap.size, 3, none⟩) (Nat.le_refl _) (.bool b3))
  have C4 := box (C3'.set_pr b3)
  obtain ⟨⟨c0, c1, c2, c3, c4, c5, c6, c7, c8, c9, c10⟩, ⟨f0, f1, f2, f3, f4, f5, f6, f7, f8, f9, f10⟩⟩ := C3'
  clear hb C3 M3
  go_wp2_with fail
  clear c0 c1 c2 c3 c4 c5 c6 c7 c8 c9 c10 f0 f1 f2 f3 f4 f5 f6 f7 f8 f9 f10
  refine (rDir_b HNn hn6 z4 HZ (box (S1.out.below M4.out)) H4).mono ?_; rintro e w6 ⟨x4, rfl, hb⟩
  have C4' := C4.out.next hb
  have M5 := box ((M4.out.trans (hb.mono M4.out.size)).setCell (p := ⟨w1.heap.size, 4, none⟩) (Nat.le_refl _) (.bool b4))
  have C5 := box (C4'.set_pv b4)
  obtain ⟨⟨c0, c1, c2, c3, c4, c5, c6, c7, c8, c9, c10⟩, ⟨f0, f1, f2, f3, f4, f5, f6, f7, f8, f9, f10⟩⟩ := C4'
  clear hb C4 M4
  go_wp2_with fail
  clear c0 c1 c2 c3 c4 c5 c6 c7 c8 c9 c10 f0 f1 f2 f3 f4 f5 f6 f7 f8 f9 f10
  refine (rDir_b HNn hn6 z5 HZ (box (S1.out.below M5.out)) H5).mono ?_; rintro e w7 ⟨x5, rfl, hb⟩
  have C5' := C5.out.next hb
  have M6 := box ((M5.out.trans (hb.mono M5.out.size)).setCell (p := ⟨w1.heap.size, 5, none⟩) (Nat.le_refl _) (.bool b5))
  have C6 := box (C5'.set_pb b5)
  obtain ⟨⟨c0, c1, c2, c3, c4, c5, c6, c7, c8, c9, c10⟩, ⟨f0, f1, f2, f3, f4, f5, f6, f7, f8, f9, f10⟩⟩ := C5'
  clear hb C5 M5
  go_wp2_with fail
  clear c0 c1 c2 c3 c4 c5 c6 c7 c8 c9 c10 f0 f1 f2 f3 f4 f5 f6 f7 f8 f9 f10
  refine (rDir_b HNn hn6 z6 HZ (box (S1.out.below M6.out)) H6).mono ?_; rintro e w8 ⟨x6, rfl, hb⟩
  have C6' := C6.out.next hb
  have M7 := box ((M6.out.trans (hb.mono M6.out.size)).setCell (p := ⟨w1.heap.size, 6, none⟩) (Nat.le_refl _) (.bool b6))
  have C7 := box (C6'.set_oc b6)
  obtain ⟨⟨c0, c1, c2, c3, c4, c5, c6, c7, c8, c9, c10⟩, ⟨f0, f1, f2, f3, f4, f5, f6, f7, f8, f9, f10⟩⟩ := C6'
  clear hb C6 M6
  go_wp2_with fail
  clear c0 c1 c2 c3 c4 c5 c6 c7 c8 c9 c10 f0 f1 f2 f3 f4 f5 f6 f7 f8 f9 f10
  refine (rSec_is HNn hn6 z7 HZ (box (S1.out.below M7.out)) H7).mono ?_; rintro e w9 ⟨rfl, hb⟩
  have C7' := C7.out.next hb
  have M8 := box ((M7.out.trans (hb.mono M7.out.size)).setCell (p := ⟨w1.heap.size, 7, none⟩) (Nat.le_refl _) (.int .i64 b7))
  have C8 := box (C7'.set_ma b7)
  obtain ⟨⟨c0, c1, c2, c3, c4, c5, c6, c7, c8, c9, c10⟩, ⟨f0, f1, f2, f3, f4, f5, f6, f7, f8, f9, f10⟩⟩ := C7'
  clear hb C7 M7
  go_wp2_with fail
  clear c0 c1 c2 c3 c4 c5 c6 c7 c8 c9 c10 f0 f1 f2 f3 f4 f5 f6 f7 f8 f9 f10
  refine (rSec_is HNn hn6 z8 HZ (box (S1.out.below M8.out)) H8).mono ?_; rintro e w10 ⟨rfl, hb⟩
  have C8' := C8.out.next hb
  have M9 := box ((M8.out.trans (hb.mono M8.out.size)).setCell (p := ⟨w1.heap.size, 8, none⟩) (Nat.le_refl _) (.int .i64 b8))
  have C9 := box (C8'.set_sm b8)
  obtain ⟨⟨c0, c1, c2, c3, c4, c5, c6, c7, c8, c9, c10⟩, ⟨f0, f1, f2, f3, f4, f5, f6, f7, f8, f9, f10⟩⟩ := C8'
  clear hb C8 M8
  go_wp2_with fail
  clear c0 c1 c2 c3 c4 c5 c6 c7 c8 c9 c10 f0 f1 f2 f3 f4 f5 f6 f7 f8 f9 f10
  refine (rSec_is HNn hn6 z9 HZ (box (S1.out.below M9.out)) H9).mono ?_; rintro e w11 ⟨rfl, hb⟩
  have C9' := C9.out.next hb
  have M10 := box ((M9.out.trans (hb.mono M9.out.size)).setCell (p := ⟨w1.heap.size, 9, none⟩) (Nat.le_refl _) (.int .i64 b9))
  have C10 := box (C9'.set_mf b9)
  obtain ⟨⟨c0, c1, c2, c3, c4, c5, c6, c7, c8, c9, c10⟩, ⟨f0, f1, f2, f3, f4, f5, f6, f7, f8, f9, f10⟩⟩ := C9'
  clear hb C9 M9
  go_wp2_with fail
  clear c0 c1 c2 c3 c4 c5 c6 c7 c8 c9 c10 f0 f1 f2 f3 f4 f5 f6 f7 f8 f9 f10
  refine (rSec_is HNn hn6 z10 HZ (box (S1.out.below M10.out)) H10).mono ?_; rintro e w12 ⟨rfl, hb⟩
  have C10' := C10.out.next hb
  have M11 := box ((M10.out.trans (hb.mono M10.out.size)).setCell (p := ⟨w1.heap.size, 10, none⟩) (Nat.le_refl _) (.int .i64 b10))
  have C11 := box (C10'.set_ms b10)
  have CF : Ct w1.heap.size ⟨b0, b1, b2, b3, b4, b5, b6, b7, b8, b9, 0⟩ w12 := C10'
  have RF := (R1.out.below (M10.out.trans (hb.mono M10.out.size)) hg)
  obtain ⟨⟨c0, c1, c2, c3, c4, c5, c6, c7, c8, c9, c10⟩, ⟨f0, f1, f2, f3, f4, f5, f6, f7, f8, f9, f10⟩⟩ := CF
  obtain ⟨⟨r0, r1, r2, r3, r4, r5, r6, r7, r8, r9, r10⟩, ⟨q0, q1, q2, q3, q4, q5, q6, q7, q8, q9, q10⟩⟩ := RF
  clear hb C10 M10 C10' C11
  rcases b0 with _ | _
  · by_cases h64 : 64 ≤ n
    · have h64i : (64 : Int) ≤ (n : Int) := by omega
      have HC2 : c = ⟨true, b1, b2, b3, b4, b5, b6, b7, b8, b9, b10⟩ := HCC.out.trans (congrArg (fun z => CT.mk (false || z) b1 b2 b3 b4 b5 b6 b7 b8 b9 b10) (decide_eq_true h64))
      clear h64 hn64
      go_wp2
      (try simp only [Exit.inBlock, Exit.then])
      refine bodyPost_ret (v := ctV ⟨true, b1, b2, b3, b4, b5, b6, b7, b8, b9, b10⟩) (by rw [results_cell22 rfl]; go_simp; rfl) rfl ?_
      have B12 := B1.out.trans (M11.out.mono B1.out.size)
      have B13 := B12.setCell (p := ⟨w1.heap.size, 0, none⟩) (Nat.le_of_lt hg) (.bool true)
      have B14 := ct_put_below B13 (Nat.le_refl _) ⟨true, b1, b2, b3, b4, b5, b6, b7, b8, b9, b10⟩
      refine ⟨?_, B14⟩
      exact congrArg (fun z => Ending.returned (ctV z)) HC2.symm
    · have h64i : decide ((64 : Int) ≤ (n : Int)) = false := by rw [decide_eq_false_iff_not]; omega
      have HC2 : c = ⟨false, b1, b2, b3, b4, b5, b6, b7, b8, b9, b10⟩ := HCC.out.trans (congrArg (fun z => CT.mk (false || z) b1 b2 b3 b4 b5 b6 b7 b8 b9 b10) (decide_eq_false h64))
      clear h64 hn64
      go_wp2
      (try simp only [Exit.inBlock, Exit.then])
      refine bodyPost_ret (v := ctV ⟨false, b1, b2, b3, b4, b5, b6, b7, b8, b9, b10⟩) (by rw [results_cell22 rfl]; go_simp; rfl) rfl ?_
      have B12 := B1.out.trans (M11.out.mono B1.out.size)
      have B13 := B12.setCell (p := ⟨w1.heap.size, 0, none⟩) (Nat.le_of_lt hg) (.bool false)
      have B14 := ct_put_below B13 (Nat.le_refl _) ⟨false, b1, b2, b3, b4, b5, b6, b7, b8, b9, b10⟩
      refine ⟨?_, B14⟩
      exact congrArg (fun z => Ending.returned (ctV z)) HC2.symm
  · have HC2 : c = ⟨true, b1, b2, b3, b4, b5, b6, b7, b8, b9, b10⟩ := HCC.out
    go_wp2
    (try simp only [Exit.inBlock, Exit.then])
    refine bodyPost_ret (v := ctV ⟨true, b1, b2, b3, b4, b5, b6, b7, b8, b9, b10⟩) (by rw [results_cell22 rfl]; go_simp; rfl) rfl ?_
    have B12 := B1.out.trans (M11.out.mono B1.out.size)
    have B13 := B12.setCell (p := ⟨w1.heap.size, 0, none⟩) (Nat.le_of_lt hg) (.bool true)
    have B14 := ct_put_below B13 (Nat.le_refl _) ⟨true, b1, b2, b3, b4, b5, b6, b7, b8, b9, b10⟩
    refine ⟨?_, B14⟩
    exact congrArg (fun z => Ending.returned (ctV z)) HC2.symm
end
end Go.Proofs.YteemoibikkmlbaaDoor.Asc
