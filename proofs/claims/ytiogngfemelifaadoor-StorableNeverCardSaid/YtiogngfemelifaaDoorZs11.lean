/- Merged texts: FrsMine FrsMine2 StoMine StoStep TarSpec TarSeg TarNorm TarRSeg. -/
import Derived.Test.YtiogngfemelifaaDoorZs01
import Derived.Test.YtiogngfemelifaaDoorZs02
import Derived.Test.YtiogngfemelifaaDoorZs03
import Derived.Test.YtiogngfemelifaaDoorZs04
import Derived.Test.YtiogngfemelifaaDoorZs06
import Derived.Test.YtiogngfemelifaaDoorZs07
import Derived.Test.YtiogngfemelifaaDoorZs09
import Derived.Test.YtiogngfemelifaaDoorZs10
import Derived.BigQuiet
import Derived.Deep.AppendLies
import Derived.Deep.QuietTactic
import Derived.Deep.RegionHeld3
set_option linter.unusedVariables false
set_option linter.unusedSimpArgs false
set_option maxRecDepth 100000
namespace Go.Proofs.YtiogngfemelifaaDoor.Asc
section
open Go.RowKit
theorem firstV_is (nm : ByteArray) (L : List F) : firstV nm L = .tuple #[.string (firB nm L), .bool (firQ nm L)] := by
  unfold firstV firB firQ
  cases getL nm L <;> rfl
theorem mFirst23_is {a : Option Addr} {cap : Nat} {L : List F} {nm x : ByteArray} {q : Bool} {w : World} (S : Box (Sm L)) (M : Box (nm.size ≤ 65536)) (hF : Box (Fs w a L)) (hx : Box (firB nm L = x)) (hq : Box (firQ nm L = q)) :
    Calls Tryd.prog 43 #[.slice a L.length cap, .string nm] w fun e w' => e = .returned (.tuple #[.string x, .bool q]) ∧ Below w.heap.size w w' :=
  (First_any a cap L nm w S.out.1 S M hF).mono fun e w' ⟨h1, h2⟩ => ⟨by rw [h1, firstV_is, hx.out, hq.out], h2⟩
theorem mPrs23_is {s : ByteArray} {a : Int} {b : Bool} {w : World} (hs : s.size ≤ 65000) (hW : Tabs w) (h : Box (numT (prsD s.data.toList) = .tuple #[.int .i64 a, .bool b])) :
    Calls Tryd.prog 44 #[.string s] w fun e w' => e = .returned (.tuple #[.int .i64 a, .bool b]) ∧ Below w.heap.size w w' :=
  (mParse20_any s w (by omega) hW).mono fun e w' ⟨h1, h2⟩ => ⟨by rw [h1, h.out], h2⟩
/-- the first date of a name -/
theorem mFdt_any (a : Option Addr) (cap : Nat) (L : List F) (nm : ByteArray) (w : World) (S : Box (Sm L)) (M : Box (nm.size ≤ 65536)) (hv : Box (∀ x ∈ getL nm L, x.size ≤ 65000)) (hF : Box (Fs w a L)) (hW : Box (Tabs w)) :
    Calls Tryd.prog 40 #[.slice a L.length cap, .string nm] w fun e w' => e = .returned (numT (fdtD nm L)) ∧ Below w.heap.size w w' := by
  obtain ⟨x, hx⟩ : ∃ x, firB nm L = x := ⟨_, rfl⟩
  obtain ⟨q, hq⟩ : ∃ q, firQ nm L = q := ⟨_, rfl⟩
  have hxs : x.size ≤ 65000 := by rw [← hx]; exact fir_small hv.out
  obtain ⟨b, c, hn⟩ : ∃ b c, numT (prsD x.data.toList) = .tuple #[.int .i64 b, .bool c] := ⟨_, _, rfl⟩
  have HX := box hx
  have HQ := box hq
  have HN := box hn
  have HZ : Box (numT (fdtD nm L) = .tuple #[.int .i64 b, .bool c]) := box (by unfold fdtD; rw [hx, hn])
  clear hx hq hn
  go_enter Tryd.func40, Tryd.ntmps40
  go_wp2_with fail
  refine (mFirst23_is S M hF HX HQ).mono ?_; rintro e w1 ⟨rfl, hb1⟩
  have B1 := box hb1
  have W1 := box (hW.out.below hb1)
  clear hb1
  go_wp2_with fail
  refine (mPrs23_is hxs W1.out HN).mono ?_; rintro e w2 ⟨rfl, hb2⟩
  have B2 := box (B1.out.trans (hb2.mono B1.out.size))
  clear hb2
  go_wp2
  go_ret2
  exact ⟨by rw [HZ.out]; rfl, B2.out⟩
/-- a sum as a duration -/
theorem mSat_any (a b : Int) (w : World) (h : -9223372036854775808 ≤ a + b ∧ a + b ≤ 9223372036854775807) :
    Calls Tryd.prog 41 #[.int .i64 a, .int .i64 b] w fun e w' => e = .returned (.int .i64 (satS (a + b))) ∧ w = w' := by
  go_enter Tryd.func41, Tryd.ntmps41
  go_wp2
  all_goals (go_ret; exact ⟨ret_int (by unfold satS; split <;> (try split) <;> omega), rfl⟩)
end
section
open Go.RowKit
theorem mResp23_is {a : Option Addr} {cap : Nat} {L : List F} {c : CT} {w : World} (S : Box (Sm L)) (hv : Box (∀ x ∈ getL ccN L, x.size ≤ 65000)) (hF : Box (Fs w a L)) (HC : Box (respC (allL ccN L) = c)) :
    Calls Tryd.prog 9 #[.slice a L.length cap] w fun e w' => e = .returned (.agg #[.bool c.ns, .bool c.nc, .bool c.mr, .bool c.pr, .bool c.pv, .bool c.pb, .bool c.oc, .int .i64 c.ma, .int .i64 c.sm, .int .i64 c.mf, .int .i64 c.ms]) ∧ Below w.heap.size w w' :=
  mResp_any a cap L w S hv hF c HC
theorem mFdt_is {a : Option Addr} {cap : Nat} {L : List F} {nm : ByteArray} {x : Int} {b : Bool} {w : World} (S : Box (Sm L)) (M : Box (nm.size ≤ 65536)) (hv : Box (∀ x ∈ getL nm L, x.size ≤ 65000)) (hF : Box (Fs w a L)) (hW : Box (Tabs w)) (H : Box (numT (fdtD nm L) = .tuple #[.int .i64 x, .bool b])) :
    Calls Tryd.prog 40 #[.slice a L.length cap, .string nm] w fun e w' => e = .returned (.tuple #[.int .i64 x, .bool b]) ∧ Below w.heap.size w w' :=
  (mFdt_any a cap L nm w S M hv hF hW).mono fun e w' ⟨h1, h2⟩ => ⟨by rw [h1, H.out], h2⟩
theorem mLife1 (a : Option Addr) (cap : Nat) (L : List F) (v : Int) (w : World) (S : Box (Sm L)) (hv : Box (∀ nm, ∀ x ∈ getL nm L, x.size ≤ 65000)) (hF : Box (Fs w a L)) (hW : Box (Tabs w)) (c : CT) (HC : Box (respC (allL ccN L) = c)) (hs : -1 ≤ c.sm) (h1 : 0 ≤ c.sm) (HV : Box (c.sm = v)) :
    Calls Tryd.prog 26 #[.slice a L.length cap] w fun e w' => e = .returned (.int .i64 v) ∧ Below w.heap.size w w' := by
  have i1 : (c.sm != -1) = true := by rw [bne_iff_ne]; omega
  clear hs h1
  go_enter Tryd.func26, Tryd.ntmps26
  go_wp2_with fail
  refine (mResp23_is S (box (hv.out ccN)) hF HC).mono ?_; rintro e w1 ⟨rfl, hb1⟩
  have B1 := box ((hb1).alloc hb1.size (.cells (ctA c) 36))
  clear hb1
  go_wp2
  go_ret
  exact ⟨ret_int HV.out, B1.out⟩
theorem mLife2 (a : Option Addr) (cap : Nat) (L : List F) (v : Int) (w : World) (S : Box (Sm L)) (hv : Box (∀ nm, ∀ x ∈ getL nm L, x.size ≤ 65000)) (hF : Box (Fs w a L)) (hW : Box (Tabs w)) (c : CT) (HC : Box (respC (allL ccN L) = c)) (hs : -1 ≤ c.sm) (hm : -1 ≤ c.ma) (h1 : ¬ 0 ≤ c.sm) (h2 : 0 ≤ c.ma) (HV : Box (c.ma = v)) :
    Calls Tryd.prog 26 #[.slice a L.length cap] w fun e w' => e = .returned (.int .i64 v) ∧ Below w.heap.size w w' := by
  have i1 : (c.sm != -1) = false := by rw [bne_eq_false_iff_eq]; omega
  have i2 : (c.ma != -1) = true := by rw [bne_iff_ne]; omega
  clear hs hm h1 h2
  go_enter Tryd.func26, Tryd.ntmps26
  go_wp2_with fail
  refine (mResp23_is S (box (hv.out ccN)) hF HC).mono ?_; rintro e w1 ⟨rfl, hb1⟩
  have B1 := box ((hb1).alloc hb1.size (.cells (ctA c) 36))
  clear hb1
  go_wp2
  go_ret
  exact ⟨ret_int HV.out, B1.out⟩
theorem mLife3 (a : Option Addr) (cap : Nat) (L : List F) (v : Int) (w : World) (S : Box (Sm L)) (hv : Box (∀ nm, ∀ x ∈ getL nm L, x.size ≤ 65000)) (hF : Box (Fs w a L)) (hW : Box (Tabs w)) (c : CT) (HC : Box (respC (allL ccN L) = c)) (hs : -1 ≤ c.sm) (hm : -1 ≤ c.ma) (h1 : ¬ 0 ≤ c.sm) (h2 : ¬ 0 ≤ c.ma) {x y : Int} {bx b : Bool} (HexN : Box (numT (fdtD exN L) = .tuple #[.int .i64 x, .bool bx])) (HdaN : Box (numT (fdtD daN L) = .tuple #[.int .i64 y, .bool b])) (hb : (bx && b) = false) (HV : Box (v = 0)) :
    Calls Tryd.prog 26 #[.slice a L.length cap] w fun e w' => e = .returned (.int .i64 v) ∧ Below w.heap.size w w' := by
  have i1 : (c.sm != -1) = false := by rw [bne_eq_false_iff_eq]; omega
  have i2 : (c.ma != -1) = false := by rw [bne_eq_false_iff_eq]; omega
  clear hs hm h1 h2
  go_enter Tryd.func26, Tryd.ntmps26
  go_wp2_with fail
  refine (mResp23_is S (box (hv.out ccN)) hF HC).mono ?_; rintro e w1 ⟨rfl, hb1⟩
  have B1 := box ((hb1).alloc hb1.size (.cells (ctA c) 36))
  have F1 := box (hF.out.below B1.out)
  have W1 := box (hW.out.below B1.out)
  clear hb1
  go_wp2_with fail
  refine (mFdt_is S (box (by decide)) (box (hv.out exN)) F1 W1 HexN).mono ?_; rintro e w2 ⟨rfl, hb2⟩
  have B2 := box (B1.out.trans (hb2.mono B1.out.size))
  have F2 := box (F1.out.below hb2)
  have W2 := box (W1.out.below hb2)
  clear hb2
  go_wp2_with fail
  refine (mFdt_is S (box (by decide)) (box (hv.out daN)) F2 W2 HdaN).mono ?_; rintro e w3 ⟨rfl, hb3⟩
  have B3 := box (B2.out.trans (hb3.mono B2.out.size))
  have F3 := box (F2.out.below hb3)
  have W3 := box (W2.out.below hb3)
  clear hb3
  have B4 := B3
  cases bx <;> cases b
  all_goals first
    | (exact absurd hb (by decide))
    | (go_wp2
       go_ret
       exact ⟨ret_int HV.out.symm, B4.out⟩)
theorem mLife4 (a : Option Addr) (cap : Nat) (L : List F) (v : Int) (w : World) (S : Box (Sm L)) (hv : Box (∀ nm, ∀ x ∈ getL nm L, x.size ≤ 65000)) (hF : Box (Fs w a L)) (hW : Box (Tabs w)) (c : CT) (HC : Box (respC (allL ccN L) = c)) (hs : -1 ≤ c.sm) (hm : -1 ≤ c.ma) (h1 : ¬ 0 ≤ c.sm) (h2 : ¬ 0 ≤ c.ma) {x y : Int} (HexN : Box (numT (fdtD exN L) = .tuple #[.int .i64 x, .bool true])) (HdaN : Box (numT (fdtD daN L) = .tuple #[.int .i64 y, .bool true])) (hx : 0 ≤ x ∧ x ≤ 253402300799) (hy : 0 ≤ y ∧ y ≤ 253402300799) (HV : Box (satS (x + -y) = v)) :
    Calls Tryd.prog 26 #[.slice a L.length cap] w fun e w' => e = .returned (.int .i64 v) ∧ Below w.heap.size w w' := by
  obtain ⟨hx0, hx1⟩ := hx
  obtain ⟨hy0, hy1⟩ := hy
  have i1 : (c.sm != -1) = false := by rw [bne_eq_false_iff_eq]; omega
  have i2 : (c.ma != -1) = false := by rw [bne_eq_false_iff_eq]; omega
  clear hs hm h1 h2
  go_enter Tryd.func26, Tryd.ntmps26
  go_wp2_with fail
  refine (mResp23_is S (box (hv.out ccN)) hF HC).mono ?_; rintro e w1 ⟨rfl, hb1⟩
  have B1 := box ((hb1).alloc hb1.size (.cells (ctA c) 36))
  have F1 := box (hF.out.below B1.out)
  have W1 := box (hW.out.below B1.out)
  clear hb1
  go_wp2_with fail
  refine (mFdt_is S (box (by decide)) (box (hv.out exN)) F1 W1 HexN).mono ?_; rintro e w2 ⟨rfl, hb2⟩
  have B2 := box (B1.out.trans (hb2.mono B1.out.size))
  have F2 := box (F1.out.below hb2)
  have W2 := box (W1.out.below hb2)
  clear hb2
  go_wp2_with fail
  refine (mFdt_is S (box (by decide)) (box (hv.out daN)) F2 W2 HdaN).mono ?_; rintro e w3 ⟨rfl, hb3⟩
  have B3 := box (B2.out.trans (hb3.mono B2.out.size))
  have F3 := box (F2.out.below hb3)
  have W3 := box (W2.out.below hb3)
  clear hb3
  have hng : IntKind.i64.wrap (-y) = -y := IntWalk.i64_in _ (by omega)
  go_wp2_with fail
  refine (mSat_any _ _ _ (by omega)).mono ?_; rintro e w4 ⟨rfl, rfl⟩
  go_wp2
  go_ret
  exact ⟨ret_int HV.out, B3.out⟩
theorem mLife_any (a : Option Addr) (cap : Nat) (L : List F) (v : Int) (w : World) (S : Box (Sm L)) (hv : Box (∀ nm, ∀ x ∈ getL nm L, x.size ≤ 65000)) (hF : Box (Fs w a L)) (hW : Box (Tabs w)) (HV : Box (lifeV (respC (allL ccN L)) (fdtD exN L) (fdtD daN L) = v)) :
    Calls Tryd.prog 26 #[.slice a L.length cap] w fun e w' => e = .returned (.int .i64 v) ∧ Below w.heap.size w w' := by
  obtain ⟨c, hc⟩ : ∃ c, respC (allL ccN L) = c := ⟨_, rfl⟩
  have hg := resp_ge (allL ccN L)
  rw [hc] at hg HV
  unfold lifeV at HV
  by_cases h1 : 0 ≤ c.sm
  · rw [if_pos h1] at HV
    exact mLife1 a cap L v w S hv hF hW c (box hc) hg.1 h1 HV
  · rw [if_neg h1] at HV
    by_cases h2 : 0 ≤ c.ma
    · rw [if_pos h2] at HV
      exact mLife2 a cap L v w S hv hF hW c (box hc) hg.1 hg.2 h1 h2 HV
    · rw [if_neg h2] at HV
      rcases hx : fdtD exN L with _ | x
      · rw [hx] at HV
        exact mLife3 a cap L v w S hv hF hW c (box hc) hg.1 hg.2 h1 h2 (box (by rw [hx]; rfl)) (box rfl) rfl (box HV.out.symm)
      · rcases hy : fdtD daN L with _ | y
        · rw [hx, hy] at HV
          exact mLife3 a cap L v w S hv hF hW c (box hc) hg.1 hg.2 h1 h2 (box (by rw [hx]; rfl)) (box (by rw [hy]; rfl)) rfl (box HV.out.symm)
        · rw [hx, hy] at HV
          exact mLife4 a cap L v w S hv hF hW c (box hc) hg.1 hg.2 h1 h2 (box (by rw [hx]; rfl)) (box (by rw [hy]; rfl)) (fdt_bd hx) (fdt_bd hy) (box (by rw [← Int.sub_eq_add_neg]; exact HV.out))
end
section
open Go.RowKit
theorem tg_some (o : Option ET) : ∃ b t, tgV o = .tuple #[.agg #[.bool b, .string t], .bool o.isSome] := by
  cases o with
  | none => exact ⟨_, _, rfl⟩
  | some e => exact ⟨_, _, rfl⟩
theorem num_some (o : Option Int) : ∃ v, numT o = .tuple #[.int .i64 v, .bool o.isSome] := by
  cases o with
  | none => exact ⟨_, rfl⟩
  | some e => exact ⟨_, rfl⟩
theorem mOf24_is {a : Option Addr} {cap : Nat} {L : List F} {b q : Bool} {t : ByteArray} {w : World} (S : Box (Sm L)) (hv : Box (∀ nm, ∀ x ∈ getL nm L, x.size ≤ 65000)) (hF : Box (Fs w a L)) (h : Box (tgV (ofM21 L) = .tuple #[.agg #[.bool b, .string t], .bool q])) :
    Calls Tryd.prog 42 #[.slice a L.length cap] w fun e w' => e = .returned (.tuple #[.agg #[.bool b, .string t], .bool q]) ∧ Below w.heap.size w w' :=
  (mOfE_any a cap L w S (box (hv.out etN)) hF).mono fun e w' ⟨h1, h2⟩ => ⟨by rw [h1, h.out], h2⟩
theorem mVal_any (a : Option Addr) (cap : Nat) (L : List F) (v : Bool) (w : World) (S : Box (Sm L)) (hv : Box (∀ nm, ∀ x ∈ getL nm L, x.size ≤ 65000)) (hF : Box (Fs w a L)) (hW : Box (Tabs w)) (HV : Box (valT L = v)) :
    Calls Tryd.prog 27 #[.slice a L.length cap] w fun e w' => e = .returned (.bool v) ∧ Below w.heap.size w w' := by
  obtain ⟨b, t, ht⟩ := tg_some (ofM21 L)
  have hval := HV.out
  unfold valT at hval
  rcases ho : (ofM21 L).isSome with _ | _
  · rw [ho] at ht hval
    obtain ⟨x, hx⟩ : ∃ x, firB lmN L = x := ⟨_, rfl⟩
    obtain ⟨q, hq⟩ : ∃ q, firQ lmN L = q := ⟨_, rfl⟩
    have hxs : x.size ≤ 65000 := by rw [← hx]; exact fir_small (hv.out lmN)
    obtain ⟨n, hn⟩ := num_some (prsD x.data.toList)
    have hd : fdtD lmN L = prsD x.data.toList := by unfold fdtD; rw [hx]
    rw [hd, Bool.false_or] at hval
    rw [hval] at hn
    have HT := box ht
    have HX := box hx
    have HQ := box hq
    have HN := box hn
    have M : Box (lmN.size ≤ 65536) := box (by decide)
    have B0 := box (below_new w (.cells #[.bool false, .string ⟨#[]⟩] 73))
    clear ht hval ho hx hq hn hd
    go_enter Tryd.func27, Tryd.ntmps27
    go_wp2_with fail
    refine (mOf24_is S hv hF HT).mono ?_; rintro e w1 ⟨rfl, hb1⟩
    have B1 := box ((hb1).alloc hb1.size (.cells #[.bool b, .string t] 73))
    have F1 := box (hF.out.below B1.out)
    have W1 := box (hW.out.below B1.out)
    clear hb1
    go_wp2_with fail
    refine (mFirst23_is (nm := lmN) S M F1 HX HQ).mono ?_; rintro e w2 ⟨rfl, hb2⟩
    have B2 := box (B1.out.trans (hb2.mono B1.out.size))
    have W2 := box (W1.out.below hb2)
    clear hb2
    go_wp2_with fail
    refine (mPrs23_is hxs W2.out HN).mono ?_; rintro e w3 ⟨rfl, hb3⟩
    have B3 := box (B2.out.trans (hb3.mono B2.out.size))
    clear hb3
    go_wp2
    go_ret
    exact ⟨rfl, B3.out⟩
  · rw [ho] at ht hval
    rw [Bool.true_or] at hval
    subst hval
    have HT := box ht
    clear ht ho
    go_enter Tryd.func27, Tryd.ntmps27
    go_wp2_with fail
    refine (mOf24_is S hv hF HT).mono ?_; rintro e w1 ⟨rfl, hb1⟩
    have B1 := box ((hb1).alloc hb1.size (.cells #[.bool b, .string t] 73))
    clear hb1
    go_wp2
    go_ret
    exact ⟨rfl, B1.out⟩
theorem mUns_any (m : ByteArray) (w : World) :
    Calls Tryd.prog 15 #[.string m] w fun e w' => e = .returned (.bool (unsB m.data.toList)) ∧ w = w' := by
  have HE : Box (unsB m.data.toList = !(m.toList == [71, 69, 84] || m.toList == [72, 69, 65, 68] || m.toList == [79, 80, 84, 73, 79, 78, 83] || m.toList == [84, 82, 65, 67, 69])) := box (by rw [toList_data]; rfl)
  rcases h1 : (m.toList == [71, 69, 84]) with _ | _ <;> rcases h2 : (m.toList == [72, 69, 65, 68]) with _ | _ <;> rcases h3 : (m.toList == [79, 80, 84, 73, 79, 78, 83]) with _ | _ <;> rcases h4 : (m.toList == [84, 82, 65, 67, 69]) with _ | _
  all_goals
    simp only [h1, h2, h3, h4, Bool.or_true, Bool.true_or, Bool.false_or, Bool.or_false, Bool.not_true, Bool.not_false] at HE
    go_enter Tryd.func15, Tryd.ntmps15
    go_wp2
    go_ret
    exact ⟨ret_bool (by rw [HE.out]), rfl⟩
theorem mAny24_is {mr pb v : Bool} {sm : Int} {ns nc pr pv oc : Bool} {ma mf ms : Int} {w : World} (h : Box ((mr || pb || (sm != -1)) = v)) :
    Calls Tryd.prog 13 #[.agg #[.bool ns, .bool nc, .bool mr, .bool pr, .bool pv, .bool pb, .bool oc, .int .i64 ma, .int .i64 sm, .int .i64 mf, .int .i64 ms]] w fun e w' => e = .returned (.bool v) ∧ Below w.heap.size w w' := by
  have B0 := box (below_new w (.cells #[.bool ns, .bool nc, .bool mr, .bool pr, .bool pv, .bool pb, .bool oc, .int .i64 ma, .int .i64 sm, .int .i64 mf, .int .i64 ms] 36))
  have hh := h.out
  clear h
  rcases hs : (sm != -1) with _ | _ <;> cases mr <;> cases pb
  all_goals
    rw [hs] at hh
    have hs' := hs
    clear hs
    subst hh
    go_enter Tryd.func13, Tryd.ntmps13
    go_wp2
    go_ret
    exact ⟨rfl, B0.out⟩
theorem mLater_any (a : Option Addr) (cap : Nat) (L : List F) (v : Bool) (w : World) (S : Box (Sm L)) (hv : Box (∀ nm, ∀ x ∈ getL nm L, x.size ≤ 65000)) (hF : Box (Fs w a L)) (hW : Box (Tabs w)) (HV : Box ((decide (0 < lifS L) || valT L) = v)) :
    Calls Tryd.prog 14 #[.slice a L.length cap] w fun e w' => e = .returned (.bool v) ∧ Below w.heap.size w w' := by
  obtain ⟨x, hx⟩ : ∃ x, lifS L = x := ⟨_, rfl⟩
  have HX : Box (lifeV (respC (allL ccN L)) (fdtD exN L) (fdtD daN L) = x) := box hx
  have hval := HV.out
  rw [hx] at hval
  by_cases h0 : 0 < x
  · rw [decide_eq_true h0, Bool.true_or] at hval
    subst hval
    clear hx
    go_enter Tryd.func14, Tryd.ntmps14
    go_wp2_with fail
    refine (mLife_any a cap L x _ S hv hF hW HX).mono ?_; rintro e w1 ⟨rfl, hb1⟩
    have B1 := box hb1
    clear hb1
    go_wp2
    go_ret
    exact ⟨rfl, B1.out⟩
  · rw [decide_eq_false h0, Bool.false_or] at hval
    have HVV := box hval
    have HZ : Box ((decide (0 < x) || v) = v) := box (by rw [decide_eq_false h0, Bool.false_or])
    clear hval hx
    go_enter Tryd.func14, Tryd.ntmps14
    go_wp2_with fail
    refine (mLife_any a cap L x _ S hv hF hW HX).mono ?_; rintro e w1 ⟨rfl, hb1⟩
    have B1 := box hb1
    have F1 := box (hF.out.below hb1)
    have W1 := box (hW.out.below hb1)
    clear hb1
    go_wp2_with fail
    refine (mVal_any a cap L v _ S hv F1 W1 HVV).mono ?_; rintro e w2 ⟨rfl, hb2⟩
    have B2 := box (B1.out.trans (hb2.mono B1.out.size))
    clear hb2
    go_wp2
    go_ret
    exact ⟨ret_bool HZ.out, B2.out⟩
end
section
open Go.RowKit
section
variable {ops : Array Oper} {o : Oper} {a : Act} {K : Act → World → Prop} {Q : Exit → Act → World → Prop} {E : Prop}
/-- a load of one cell that holds a slice of fields -/
theorem step_load24 (w : World) (hgd : o.guard = none) (x : Operand) (ho : o.op = .load 22 x) (g i : Nat) (v : Value) (hx : a.eval x = .pointer (some ⟨g, i, none⟩)) (hc : w.cell? ⟨g, i, none⟩ = some v)
    (h : K (a.put o.dst v) w) : if Region.wanted o (yielded ops a.tmps) = true then Oper.wp Tryd.prog o a w K Q else E := by
  have hw : Region.wanted o (yielded ops a.tmps) = true := by simp [Region.wanted, hgd]
  rw [if_pos hw]
  have hrun : (execOp a.eval o).run Tryd.prog w = .ok (.value v) w := by
    simp only [execOp, ho, hx]
    go_simp
  unfold Oper.wp
  rw [hrun, Oper.upon_value]
  exact h
/-- a store of a slice of fields into one cell -/
theorem step_put24 (w : World) (hgd : o.guard = none) (p x : Operand) (ho : o.op = .store 22 p x) (g i : Nat) (u : Value) (ad : Option Addr) (n c : Nat) (hp : a.eval p = .pointer (some ⟨g, i, none⟩)) (hx : a.eval x = .slice ad n c) (hc : w.cell? ⟨g, i, none⟩ = some u) (hf : w.frozen? ⟨g, i, none⟩ = false)
    (h : ∀ v, K (a.put o.dst v) (w.setCell ⟨g, i, none⟩ (.slice ad n c))) : if Region.wanted o (yielded ops a.tmps) = true then Oper.wp Tryd.prog o a w K Q else E := by
  have hw : Region.wanted o (yielded ops a.tmps) = true := by simp [Region.wanted, hgd]
  rw [if_pos hw]
  unfold Oper.wp
  simp only [execOp, ho, hp, hx]
  go_simp
  exact h undef
/-- a slice of one field, made -/
theorem step_build24 (w : World) (hgd : o.guard = none) (x : Operand) (ho : o.op = .buildSlice 22 1 #[(0, x)]) (fn fv : ByteArray) (hx : a.eval x = .agg #[.string fn, .string fv])
    (h : ∀ w', (w'.cell? ⟨w.heap.size, 0, none⟩ = some (.string fn) ∧ w'.cell? ⟨w.heap.size, 1, none⟩ = some (.string fv)) → Below w.heap.size w w' → K (a.put o.dst (.slice (some ⟨w.heap.size, 0, none⟩) 1 1)) w') :
    if Region.wanted o (yielded ops a.tmps) = true then Oper.wp Tryd.prog o a w K Q else E := by
  have hw : Region.wanted o (yielded ops a.tmps) = true := by simp [Region.wanted, hgd]
  rw [if_pos hw]
  have hrun : (execOp a.eval o).run Tryd.prog w = .ok (.value (.slice (some ⟨w.heap.size, 0, none⟩) 1 1)) (w.alloc (.cells #[.string fn, .string fv] 30)) := by
    simp only [execOp, ho]
    simp [hx]
    go_simp
  unfold Oper.wp
  rw [hrun, Oper.upon_value]
  exact h _ ⟨by rw [World.cell?_alloc_mark]; rfl, by rw [World.cell?_alloc_mark]; rfl⟩ (below_new _ _)
end
end
section
def alnumI (b : Int) : Bool := letterI b || digitI b
def hexI (b : Int) : Int := if digitI b = true then b - 48 else if 97 ≤ b ∧ b ≤ 102 then b - 87 else if 65 ≤ b ∧ b ≤ 70 then b - 55 else -1
def hexB (c : UInt8) : Bool := decide (0 ≤ hexI c.toNat)
def unresI (b : Int) : Bool := alnumI b || b == 45 || b == 46 || b == 95 || b == 126
def okI (b : Int) : Bool := decide (33 ≤ b ∧ b ≤ 126) && !(b == 35)
def okB (c : UInt8) : Bool := okI c.toNat
def hexD : List UInt8 := [48, 49, 50, 51, 52, 53, 54, 55, 56, 57, 65, 66, 67, 68, 69, 70]
/-- the byte of a triplet, and what is written for it -/
def tripN (a b : UInt8) : Nat := (hexI a.toNat * 16 + hexI b.toNat).toNat
def tripL (x : Nat) : List UInt8 := if unresI x = true then [UInt8.ofNat x] else [37, hexD.getD (x / 16) 0, hexD.getD (x % 16) 0]
def normL : List UInt8 → Option (List UInt8)
  | [] => some []
  | c :: r =>
    if okB c = false then none
    else if c ≠ 37 then (normL r).map (c :: ·)
    else match r with
      | a :: b :: r2 => if (hexB a && hexB b) = true then (normL r2).map (tripL (tripN a b) ++ ·) else none
      | _ => none
theorem norm_bad {c : UInt8} {r : List UInt8} (h : okB c = false) : normL (c :: r) = none := by
  unfold normL; rw [if_pos h]
theorem norm_plain {c : UInt8} {r : List UInt8} (h : okB c = true) (h2 : c ≠ 37) : normL (c :: r) = (normL r).map (c :: ·) := by
  conv => lhs; unfold normL
  rw [if_neg (by rw [h]; simp), if_pos h2]
end
section
/-- the pieces between the slashes; what is joined again -/
def piecesL (l : List UInt8) : List (List UInt8) := match l with
  | [] => [[]]
  | c :: r => if c = 47 then [] :: piecesL r else match piecesL r with
    | [] => [[c]]
    | p :: ps => (c :: p) :: ps
def joinL (ps : List (List UInt8)) : List UInt8 := ps.flatMap (47 :: ·)
def dot1 : List UInt8 := [46]
def dot2 : List UInt8 := [46, 46]
/-- the pieces that are left: out are those that have been left so far -/
def dotsL (out : List (List UInt8)) : List (List UInt8) → List (List UInt8)
  | [] => out
  | x :: r =>
    if x = dot2 then (if r = [] then out.dropLast ++ [[]] else dotsL out.dropLast r)
    else if x = dot1 then (if r = [] then out ++ [[]] else dotsL out r)
    else dotsL (out ++ [x]) r
end
section
open Go.RowKit
/-- acc has been written for the first k bytes -/
def NmAt (l : List UInt8) (k : Nat) (acc : List UInt8) : Prop := acc.length ≤ k ∧ normL l = (normL (l.drop k)).map (acc ++ ·)
theorem NmAt.start (l : List UInt8) : NmAt l 0 [] := ⟨by simp, by simp⟩
theorem NmAt.fin {l : List UInt8} {k : Nat} {acc : List UInt8} (h : NmAt l k acc) (hk : l.length ≤ k) : normL l = some acc := by
  rw [h.2, List.drop_of_length_le hk]; simp [normL]
theorem NmAt.bad {s : ByteArray} {k : Nat} {acc : List UInt8} (h : NmAt s.data.toList k acc) (hk : k < s.size) (hc : okB s[k] = false) : normL s.data.toList = none := by
  rw [h.2, drop_cons s k hk, norm_bad hc]; rfl
theorem NmAt.plain {s : ByteArray} {k : Nat} {acc : List UInt8} (h : NmAt s.data.toList k acc) (hk : k < s.size) (hc : okB s[k] = true) (h37 : s[k] ≠ 37) : NmAt s.data.toList (k + 1) (acc ++ [s[k]]) := by
  refine ⟨by have := h.1; simp; omega, ?_⟩
  rw [h.2, drop_cons s k hk, norm_plain hc h37, Option.map_map]; congr 1; funext x; simp
theorem Own.drewN {w : World} {B n : Nat} {v : Value} {l : List UInt8} (h : Own w B v l) : Own (w.drewN n) B v l := h
theorem size_more (w : World) (o : Obj) : w.heap.size ≤ (w.alloc o).heap.size := ((Below.refl w.heap.size w).alloc (Nat.le_refl _) o).size
end
section
open Go.RowKit
def outL (ob : List ByteArray) : List (List UInt8) := ob.map (·.data.toList)
/-- out has been left of the pieces of r0; rest is to come -/
def SegAt (r0 : List UInt8) (ob : List ByteArray) (rest : List UInt8) : Bool → Prop
  | true => dotsL [] (piecesL r0) = dotsL (outL ob) (piecesL rest) ∧ (joinL (outL ob)).length + rest.length ≤ r0.length
  | false => dotsL [] (piecesL r0) = outL ob ∧ (joinL (outL ob)).length ≤ r0.length + 1
theorem SegAt.start (r0 : List UInt8) : SegAt r0 [] r0 true := ⟨rfl, by simp [outL, joinL]⟩
theorem len_join (a : List (List UInt8)) : a.length ≤ (joinL a).length := by
  induction a with
  | nil => simp [joinL]
  | cons x a ih => simp only [joinL, List.flatMap_cons, List.length_append, List.length_cons] at *; omega
theorem SegAt.len {r0 rest : List UInt8} {ob : List ByteArray} {m : Bool} (h : SegAt r0 ob rest m) : ob.length ≤ r0.length + 1 := by
  have h1 := len_join (outL ob)
  have h2 : (outL ob).length = ob.length := by simp [outL]
  cases m
  · have := h.2; omega
  · have := h.2; omega
end
end Go.Proofs.YtiogngfemelifaaDoor.Asc
