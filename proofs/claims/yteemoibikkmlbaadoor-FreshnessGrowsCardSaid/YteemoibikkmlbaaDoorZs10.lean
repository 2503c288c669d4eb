/- Merged texts: FrsRef2 FrsRef3. -/
import Derived.Test.YteemoibikkmlbaaDoorZs08
import Derived.Test.YteemoibikkmlbaaDoorZs09
set_option linter.unusedVariables false
set_option linter.unusedSimpArgs false
set_option maxRecDepth 100000
namespace Go.Proofs.YteemoibikkmlbaaDoor.Asc
section
open Go.RowKit
theorem rResp23_is {a : Option Addr} {cap : Nat} {L : List F} {c : CT} {w : World} (S : Box (Sm L)) (hv : Box (∀ x ∈ getL ccN L, x.size ≤ 65000)) (hF : Box (Fs w a L)) (HC : Box (respC (allL ccN L) = c)) :
    Calls Tryd.prog 22 #[.slice a L.length cap] w fun e w' => e = .returned (.agg #[.bool c.ns, .bool c.nc, .bool c.mr, .bool c.pr, .bool c.pv, .bool c.pb, .bool c.oc, .int .i64 c.ma, .int .i64 c.sm, .int .i64 c.mf, .int .i64 c.ms]) ∧ Below w.heap.size w w' :=
  rResp_any a cap L w S hv hF c HC
theorem rFdt_is {a : Option Addr} {cap : Nat} {L : List F} {nm : ByteArray} {x : Int} {b : Bool} {w : World} (S : Box (Sm L)) (M : Box (nm.size ≤ 65536)) (hv : Box (∀ x ∈ getL nm L, x.size ≤ 65000)) (hF : Box (Fs w a L)) (H : Box (numT (fdtD nm L) = .tuple #[.int .i64 x, .bool b])) :
    Calls Tryd.prog 23 #[.slice a L.length cap, .string nm] w fun e w' => e = .returned (.tuple #[.int .i64 x, .bool b]) ∧ Below w.heap.size w w' :=
  (rFdt_any a cap L nm w S M hv hF).mono fun e w' ⟨h1, h2⟩ => ⟨by rw [h1, H.out], h2⟩
theorem rLife1 (a : Option Addr) (cap : Nat) (L : List F) (v : Int) (w : World) (S : Box (Sm L)) (hv : Box (∀ nm, ∀ x ∈ getL nm L, x.size ≤ 65000)) (hF : Box (Fs w a L)) (c : CT) (HC : Box (respC (allL ccN L) = c)) (hs : -1 ≤ c.sm) (h1 : 0 ≤ c.sm) (HV : Box (c.sm = v)) :
    Calls Tryd.prog 11 #[.slice a L.length cap] w fun e w' => e = .returned (.int .i64 v) ∧ Below w.heap.size w w' := by
  have i1 : (0 : Int) ≤ c.sm := h1
  clear hs h1
  go_enter Tryd.func11, Tryd.ntmps11
  go_wp2_with fail
  refine (rResp23_is S (box (hv.out ccN)) hF HC).mono ?_; rintro e w1 ⟨rfl, hb1⟩
  have B1 := box ((hb1).alloc hb1.size (.cells (ctA c) 31))
  clear hb1
  go_wp2
  go_ret
  exact ⟨ret_int HV.out, B1.out⟩
theorem rLife2 (a : Option Addr) (cap : Nat) (L : List F) (v : Int) (w : World) (S : Box (Sm L)) (hv : Box (∀ nm, ∀ x ∈ getL nm L, x.size ≤ 65000)) (hF : Box (Fs w a L)) (c : CT) (HC : Box (respC (allL ccN L) = c)) (hs : -1 ≤ c.sm) (hm : -1 ≤ c.ma) (h1 : ¬ 0 ≤ c.sm) (h2 : 0 ≤ c.ma) (HV : Box (c.ma = v)) :
    Calls Tryd.prog 11 #[.slice a L.length cap] w fun e w' => e = .returned (.int .i64 v) ∧ Below w.heap.size w w' := by
  have i1 : ¬ (0 : Int) ≤ c.sm := h1
  have i2 : (0 : Int) ≤ c.ma := h2
  clear hs hm h1 h2
  go_enter Tryd.func11, Tryd.ntmps11
  go_wp2_with fail
  refine (rResp23_is S (box (hv.out ccN)) hF HC).mono ?_; rintro e w1 ⟨rfl, hb1⟩
  have B1 := box ((hb1).alloc hb1.size (.cells (ctA c) 31))
  clear hb1
  go_wp2
  go_ret
  exact ⟨ret_int HV.out, B1.out⟩
theorem rLife3 (a : Option Addr) (cap : Nat) (L : List F) (v : Int) (w : World) (S : Box (Sm L)) (hv : Box (∀ nm, ∀ x ∈ getL nm L, x.size ≤ 65000)) (hF : Box (Fs w a L)) (c : CT) (HC : Box (respC (allL ccN L) = c)) (hs : -1 ≤ c.sm) (hm : -1 ≤ c.ma) (h1 : ¬ 0 ≤ c.sm) (h2 : ¬ 0 ≤ c.ma) {x y : Int} {bx b : Bool} (HexN : Box (numT (fdtD exN L) = .tuple #[.int .i64 x, .bool bx])) (HdaN : Box (numT (fdtD daN L) = .tuple #[.int .i64 y, .bool b])) (hb : (bx && b) = false) (HV : Box (v = 0)) :
    Calls Tryd.prog 11 #[.slice a L.length cap] w fun e w' => e = .returned (.int .i64 v) ∧ Below w.heap.size w w' := by
  have i1 : ¬ (0 : Int) ≤ c.sm := h1
  have i2 : ¬ (0 : Int) ≤ c.ma := h2
  clear hs hm h1 h2
  go_enter Tryd.func11, Tryd.ntmps11
  go_wp2_with fail
  refine (rResp23_is S (box (hv.out ccN)) hF HC).mono ?_; rintro e w1 ⟨rfl, hb1⟩
  have B1 := box ((hb1).alloc hb1.size (.cells (ctA c) 31))
  have F1 := box (hF.out.below B1.out)
  clear hb1
  go_wp2_with fail
  refine (rFdt_is S (box (by decide)) (box (hv.out exN)) F1 HexN).mono ?_; rintro e w2 ⟨rfl, hb2⟩
  have B2 := box (B1.out.trans (hb2.mono B1.out.size))
  have F2 := box (F1.out.below hb2)
  clear hb2
  go_wp2_with fail
  refine (rFdt_is S (box (by decide)) (box (hv.out daN)) F2 HdaN).mono ?_; rintro e w3 ⟨rfl, hb3⟩
  have B3 := box (B2.out.trans (hb3.mono B2.out.size))
  have F3 := box (F2.out.below hb3)
  clear hb3
  have B4 := B3
  cases bx <;> cases b
  all_goals first
    | (exact absurd hb (by decide))
    | (go_wp2
       go_ret
       exact ⟨ret_int HV.out.symm, B4.out⟩)
theorem rLife4 (a : Option Addr) (cap : Nat) (L : List F) (v : Int) (w : World) (S : Box (Sm L)) (hv : Box (∀ nm, ∀ x ∈ getL nm L, x.size ≤ 65000)) (hF : Box (Fs w a L)) (c : CT) (HC : Box (respC (allL ccN L) = c)) (hs : -1 ≤ c.sm) (hm : -1 ≤ c.ma) (h1 : ¬ 0 ≤ c.sm) (h2 : ¬ 0 ≤ c.ma) {x y : Int} (HexN : Box (numT (fdtD exN L) = .tuple #[.int .i64 x, .bool true])) (HdaN : Box (numT (fdtD daN L) = .tuple #[.int .i64 y, .bool true])) (hx : 0 ≤ x ∧ x ≤ 253402300799) (hy : 0 ≤ y ∧ y ≤ 253402300799) (HV : Box (satS (x - y) = v)) :
    Calls Tryd.prog 11 #[.slice a L.length cap] w fun e w' => e = .returned (.int .i64 v) ∧ Below w.heap.size w w' := by
  obtain ⟨hx0, hx1⟩ := hx
  obtain ⟨hy0, hy1⟩ := hy
  have i1 : ¬ (0 : Int) ≤ c.sm := h1
  have i2 : ¬ (0 : Int) ≤ c.ma := h2
  clear hs hm h1 h2
  go_enter Tryd.func11, Tryd.ntmps11
  go_wp2_with fail
  refine (rResp23_is S (box (hv.out ccN)) hF HC).mono ?_; rintro e w1 ⟨rfl, hb1⟩
  have B1 := box ((hb1).alloc hb1.size (.cells (ctA c) 31))
  have F1 := box (hF.out.below B1.out)
  clear hb1
  go_wp2_with fail
  refine (rFdt_is S (box (by decide)) (box (hv.out exN)) F1 HexN).mono ?_; rintro e w2 ⟨rfl, hb2⟩
  have B2 := box (B1.out.trans (hb2.mono B1.out.size))
  have F2 := box (F1.out.below hb2)
  clear hb2
  go_wp2_with fail
  refine (rFdt_is S (box (by decide)) (box (hv.out daN)) F2 HdaN).mono ?_; rintro e w3 ⟨rfl, hb3⟩
  have B3 := box (B2.out.trans (hb3.mono B2.out.size))
  have F3 := box (F2.out.below hb3)
  clear hb3
  go_wp2
  all_goals (go_ret; exact ⟨ret_int (by rw [← HV.out]; unfold satS; split <;> (try split) <;> omega), B3.out⟩)
theorem rLife_any (a : Option Addr) (cap : Nat) (L : List F) (v : Int) (w : World) (S : Box (Sm L)) (hv : Box (∀ nm, ∀ x ∈ getL nm L, x.size ≤ 65000)) (hF : Box (Fs w a L)) (HV : Box (lifeV (respC (allL ccN L)) (fdtD exN L) (fdtD daN L) = v)) :
    Calls Tryd.prog 11 #[.slice a L.length cap] w fun e w' => e = .returned (.int .i64 v) ∧ Below w.heap.size w w' := by
  obtain ⟨c, hc⟩ : ∃ c, respC (allL ccN L) = c := ⟨_, rfl⟩
  have hg := resp_ge (allL ccN L)
  rw [hc] at hg HV
  unfold lifeV at HV
  by_cases h1 : 0 ≤ c.sm
  · rw [if_pos h1] at HV
    exact rLife1 a cap L v w S hv hF c (box hc) hg.1 h1 HV
  · rw [if_neg h1] at HV
    by_cases h2 : 0 ≤ c.ma
    · rw [if_pos h2] at HV
      exact rLife2 a cap L v w S hv hF c (box hc) hg.1 hg.2 h1 h2 HV
    · rw [if_neg h2] at HV
      rcases hx : fdtD exN L with _ | x
      · rw [hx] at HV
        exact rLife3 a cap L v w S hv hF c (box hc) hg.1 hg.2 h1 h2 (box (by rw [hx]; rfl)) (box rfl) rfl (box HV.out.symm)
      · rcases hy : fdtD daN L with _ | y
        · rw [hx, hy] at HV
          exact rLife3 a cap L v w S hv hF c (box hc) hg.1 hg.2 h1 h2 (box (by rw [hx]; rfl)) (box (by rw [hy]; rfl)) rfl (box HV.out.symm)
        · rw [hx, hy] at HV
          exact rLife4 a cap L v w S hv hF c (box hc) hg.1 hg.2 h1 h2 (box (by rw [hx]; rfl)) (box (by rw [hy]; rfl)) (fdt_bd hx) (fdt_bd hy) HV
theorem rDate_any (a : Option Addr) (cap : Nat) (L : List F) (r v : Int) (w : World) (S : Box (Sm L)) (hv : Box (∀ nm, ∀ x ∈ getL nm L, x.size ≤ 65000)) (hF : Box (Fs w a L)) (HV : Box (dateV (fdtD daN L) r = v)) :
    Calls Tryd.prog 13 #[.slice a L.length cap, .int .i64 r] w fun e w' => e = .returned (.int .i64 v) ∧ Below w.heap.size w w' := by
  rcases hd : fdtD daN L with _ | d
  · have HD : Box (numT (fdtD daN L) = .tuple #[.int .i64 0, .bool false]) := box (by rw [hd]; rfl)
    have HR : Box (r = v) := box (by rw [← HV.out, hd]; rfl)
    clear hd
    go_enter Tryd.func13, Tryd.ntmps13
    go_wp2_with fail
    refine (rFdt_is S (box (by decide)) (box (hv.out daN)) hF HD).mono ?_; rintro e w1 ⟨rfl, hb1⟩
    have B1 := box hb1
    clear hb1
    go_wp2
    go_ret
    exact ⟨ret_int HR.out, B1.out⟩
  · have HD : Box (numT (fdtD daN L) = .tuple #[.int .i64 d, .bool true]) := box (by rw [hd]; rfl)
    have HR : Box (d = v) := box (by rw [← HV.out, hd]; rfl)
    clear hd
    go_enter Tryd.func13, Tryd.ntmps13
    go_wp2_with fail
    refine (rFdt_is S (box (by decide)) (box (hv.out daN)) hF HD).mono ?_; rintro e w1 ⟨rfl, hb1⟩
    have B1 := box hb1
    clear hb1
    go_wp2
    go_ret
    exact ⟨ret_int HR.out, B1.out⟩
end
section
open Go.RowKit
theorem rAge_out (a : Option Addr) (cap : Nat) (L : List F) (q r t : Int) (w : World) (h : ¬ (0 ≤ q ∧ q ≤ r ∧ r ≤ t ∧ t ≤ 1099511627776)) :
    Calls Tryd.prog 16 #[.slice a L.length cap, .int .i64 q, .int .i64 r, .int .i64 t] w fun e w' => e = .returned (.int .i64 2147483647) ∧ Below w.heap.size w w' := by
  by_cases h0 : q < 0
  · clear h
    go_enter Tryd.func16, Tryd.ntmps16
    go_wp2
    go_ret
    exact ⟨rfl, Below.refl _ _⟩
  · by_cases h1 : r < q
    · clear h
      go_enter Tryd.func16, Tryd.ntmps16
      go_wp2
      go_ret
      exact ⟨rfl, Below.refl _ _⟩
    · by_cases h2 : t < r
      · clear h
        go_enter Tryd.func16, Tryd.ntmps16
        go_wp2
        go_ret
        exact ⟨rfl, Below.refl _ _⟩
      · have h3 : (1099511627776 : Int) < t := by omega
        clear h
        go_enter Tryd.func16, Tryd.ntmps16
        go_wp2
        go_ret
        exact ⟨rfl, Below.refl _ _⟩
theorem rAge_in (a : Option Addr) (cap : Nat) (L : List F) (q r t v D n : Int) (w : World) (S : Box (Sm L)) (hv : Box (∀ nm, ∀ x ∈ getL nm L, x.size ≤ 65000)) (hF : Box (Fs w a L))
    (h0 : 0 ≤ q) (h1 : q ≤ r) (h2 : r ≤ t) (h3 : t ≤ 1099511627776) (HD : Box (dateV (fdtD daN L) r = D)) (hD0 : 0 ≤ D) (hD1 : D ≤ 1099511627776) (HN : Box (statD L = n)) (hn0 : 0 ≤ n) (hn1 : n ≤ 2147483647) (HV : Box (satS (maxI (maxI 0 (r - D)) (n + r - q) + t - r) = v)) :
    Calls Tryd.prog 16 #[.slice a L.length cap, .int .i64 q, .int .i64 r, .int .i64 t] w fun e w' => e = .returned (.int .i64 v) ∧ Below w.heap.size w w' := by
  have i0 : ¬ q < 0 := by omega
  have i1 : ¬ r < q := by omega
  have i2 : ¬ t < r := by omega
  have i3 : ¬ (1099511627776 : Int) < t := by omega
  obtain ⟨x, hx⟩ : ∃ x, firB agN L = x := ⟨_, rfl⟩
  obtain ⟨b, hq⟩ : ∃ b, firQ agN L = b := ⟨_, rfl⟩
  have hxs : x.size ≤ 65000 := by rw [← hx]; exact fir_small (hv.out agN)
  obtain ⟨c, hc⟩ : ∃ c, (numV (numL x.data.toList)).2 = c := ⟨_, rfl⟩
  have HNN : Box (numT (numL x.data.toList) = .tuple #[.int .i64 n, .bool c]) := box (by rw [num_parts23, hc, ← HN.out]; unfold statD; rw [hx])
  have HX := box hx
  have HQ := box hq
  have M : Box (agN.size ≤ 65536) := box (by decide)
  clear hx hq hc
  go_enter Tryd.func16, Tryd.ntmps16
  go_wp2_with fail
  refine (rFirst23_is (nm := agN) S M hF HX HQ).mono ?_; rintro e w1 ⟨rfl, hb1⟩
  have B1 := box hb1
  have F1 := box (hF.out.below hb1)
  clear hb1
  go_wp2_with fail
  refine (rNum23_is hxs HNN).mono ?_; rintro e w2 ⟨rfl, rfl⟩
  go_wp2_with fail
  refine (rDate_any a cap L r D _ S hv F1 HD).mono ?_; rintro e w2 ⟨rfl, hb2⟩
  have B2 := box (B1.out.trans (hb2.mono B1.out.size))
  clear hb2
  go_wp2
  all_goals go_ret
  all_goals exact ⟨ret_int (by rw [← HV.out]; unfold satS maxI; split <;> (try split) <;> (try split) <;> (try split) <;> omega), B2.out⟩
theorem rAge_any (a : Option Addr) (cap : Nat) (L : List F) (q r t v : Int) (w : World) (S : Box (Sm L)) (hv : Box (∀ nm, ∀ x ∈ getL nm L, x.size ≤ 65000)) (hF : Box (Fs w a L)) (HV : Box (ageV (fdtD daN L) (statD L) q r t = v)) :
    Calls Tryd.prog 16 #[.slice a L.length cap, .int .i64 q, .int .i64 r, .int .i64 t] w fun e w' => e = .returned (.int .i64 v) ∧ Below w.heap.size w w' := by
  by_cases h : 0 ≤ q ∧ q ≤ r ∧ r ≤ t ∧ t ≤ 1099511627776
  · have hd := date_bd23 (nm := daN) (L := L) (show 0 ≤ r by omega) (show r ≤ 1099511627776 by omega)
    have hn := stat_bd L
    exact rAge_in a cap L q r t v _ _ w S hv hF h.1 h.2.1 h.2.2.1 h.2.2.2 (box rfl) hd.1 hd.2 (box rfl) hn.1 hn.2 (box (by rw [← HV.out, age_in23 h.1 h.2.1 h.2.2.1 h.2.2.2]))
  · rw [age_out23 h] at HV
    exact (rAge_out a cap L q r t w h).mono fun e w' ⟨h1, h2⟩ => ⟨by rw [h1, HV.out], h2⟩
end
end Go.Proofs.YteemoibikkmlbaaDoor.Asc
