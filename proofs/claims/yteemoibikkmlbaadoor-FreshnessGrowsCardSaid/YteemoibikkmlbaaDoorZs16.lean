/- Merged texts: FrsLaws3. -/
import Derived.Test.YteemoibikkmlbaaDoorZs12
set_option linter.unusedVariables false
set_option linter.unusedSimpArgs false
set_option maxRecDepth 100000
namespace Go.Proofs.YteemoibikkmlbaaDoor.Asc
section
open Go.RowKit
set_option maxHeartbeats 4000000 in
theorem grows23_walk (a : Option Addr) (cap : Nat) (L : List F) (q r t m : Int) (w : World) (hl : L.length ≤ maxLen) (hF : Fs w a L) (hc : L.length ≤ cap) (hq : (Lit.int .i64 q).wf = true) (hr : (Lit.int .i64 r).wf = true) (ht : (Lit.int .i64 t).wf = true) (hm : (Lit.int .i64 m).wf = true) (hW : Tabs w) :
    Calls Tryd.prog 6 #[.slice a L.length cap, .int .i64 q, .int .i64 r, .int .i64 t, .int .i64 m] w fun e w' => e = .returned (.bool true) ∧ Below w.heap.size w w' := by
  have F0 := box hF
  have W0 := box hW
  have HL := hl
  clear hF hl hq hr ht hm hW
  rcases hk : keepF L with _ | _
  · have HK := box hk
    clear hk
    go_enter Tryd.func6, Tryd.ntmps6
    go_wp2_with fail
    refine (keepFields_any a cap L _ HL F0).mono ?_; rintro e w1 ⟨rfl, rfl⟩; rw [HK.out]
    go_wp2
    go_ret
    exact ⟨rfl, Below.refl _ _⟩
  have HK := box hk
  have SM := box (keep_sm7 hk)
  have HV := box (keep_get hk)
  clear hk
  by_cases h0 : q < 0
  · go_enter Tryd.func6, Tryd.ntmps6
    go_wp2_with fail
    refine (keepFields_any a cap L _ HL F0).mono ?_; rintro e w1 ⟨rfl, rfl⟩; rw [HK.out]
    go_wp2
    go_ret
    exact ⟨rfl, Below.refl _ _⟩
  by_cases h1 : r < q
  · go_enter Tryd.func6, Tryd.ntmps6
    go_wp2_with fail
    refine (keepFields_any a cap L _ HL F0).mono ?_; rintro e w1 ⟨rfl, rfl⟩; rw [HK.out]
    go_wp2
    go_ret
    exact ⟨rfl, Below.refl _ _⟩
  by_cases h2 : t < r
  · go_enter Tryd.func6, Tryd.ntmps6
    go_wp2_with fail
    refine (keepFields_any a cap L _ HL F0).mono ?_; rintro e w1 ⟨rfl, rfl⟩; rw [HK.out]
    go_wp2
    go_ret
    exact ⟨rfl, Below.refl _ _⟩
  by_cases h3 : (1099511627776 : Int) < t
  · go_enter Tryd.func6, Tryd.ntmps6
    go_wp2_with fail
    refine (keepFields_any a cap L _ HL F0).mono ?_; rintro e w1 ⟨rfl, rfl⟩; rw [HK.out]
    go_wp2
    go_ret
    exact ⟨rfl, Below.refl _ _⟩
  by_cases h4 : m < 0
  · go_enter Tryd.func6, Tryd.ntmps6
    go_wp2_with fail
    refine (keepFields_any a cap L _ HL F0).mono ?_; rintro e w1 ⟨rfl, rfl⟩; rw [HK.out]
    go_wp2
    go_ret
    exact ⟨rfl, Below.refl _ _⟩
  have is : IntKind.i64.wrap (1099511627776 - t) = 1099511627776 - t := IntWalk.i64_in _ (by omega)
  by_cases h5 : 1099511627776 - t < m
  · go_enter Tryd.func6, Tryd.ntmps6
    go_wp2_with fail
    refine (keepFields_any a cap L _ HL F0).mono ?_; rintro e w1 ⟨rfl, rfl⟩; rw [HK.out]
    go_wp2
    go_ret
    exact ⟨rfl, Below.refl _ _⟩
  obtain ⟨x, hx⟩ : ∃ x, ageV (fdtD daN L) (statD L) q r t = x := ⟨_, rfl⟩
  have hbd := age_bd (fdtD daN L) (statD L) q r t
  have hgr := age_grows (d := fdtD daN L) (q := q) (r := r) (t := t) (m := m) (stat_bd L).1 (by omega) (by omega) (by omega) (by omega) (by omega)
  rw [hx] at hbd hgr
  obtain ⟨hb0, hb1⟩ := hbd
  obtain ⟨hg, hs⟩ := hgr
  have HX := box hx
  clear hx
  have hs2 : (t - r ≤ 2147483647 ∧ t - r ≤ x) ∨ (2147483647 < t - r ∧ x = 2147483647) := by
    split at hs
    · exact Or.inl ⟨by assumption, hs⟩
    · exact Or.inr ⟨by omega, by omega⟩
  clear hs
  have tm : IntKind.i64.wrap (t + m) = t + m := IntWalk.i64_in _ (by omega)
  have xm : IntKind.i64.wrap (x + m) = x + m := IntWalk.i64_in _ (by omega)
  have tr : IntKind.i64.wrap (t - r) = t - r := IntWalk.i64_in _ (by omega)
  by_cases hxm : x + m ≤ 2147483647
  · rw [if_pos hxm] at hg
    have HG := box hg
    clear hg
    rcases hs2 with ⟨s1, s2⟩ | ⟨s1, rfl⟩
    · go_enter Tryd.func6, Tryd.ntmps6
      go_wp2_with fail
      refine (keepFields_any a cap L _ HL F0).mono ?_; rintro e w1 ⟨rfl, rfl⟩; rw [HK.out]
      go_wp2_with fail
      refine (mAge_any a cap L q r t x _ SM HV F0 W0 HX).mono ?_; rintro e w2 ⟨rfl, hb2⟩
      have B2 := box hb2
      have F2 := box (F0.out.below hb2)
      have W2 := box (W0.out.below hb2)
      clear hb2
      go_wp2_with fail
      refine (mAge_any a cap L q r (t + m) (x + m) _ SM HV F2 W2 HG).mono ?_; rintro e w3 ⟨rfl, hb3⟩
      have B3 := box (B2.out.trans (hb3.mono B2.out.size))
      have W3 := box (W2.out.below hb3)
      clear hb3
      go_wp2_with fail
      refine (awake23_any _ W3.out).mono ?_; rintro e w4 ⟨rfl, hb4⟩
      have B4 := box (B3.out.trans (hb4.mono B3.out.size))
      clear hb4
      go_wp2
      go_ret
      exact ⟨rfl, B4.out⟩
    · go_enter Tryd.func6, Tryd.ntmps6
      go_wp2_with fail
      refine (keepFields_any a cap L _ HL F0).mono ?_; rintro e w1 ⟨rfl, rfl⟩; rw [HK.out]
      go_wp2_with fail
      refine (mAge_any a cap L q r t 2147483647 _ SM HV F0 W0 HX).mono ?_; rintro e w2 ⟨rfl, hb2⟩
      have B2 := box hb2
      have F2 := box (F0.out.below hb2)
      have W2 := box (W0.out.below hb2)
      clear hb2
      go_wp2_with fail
      refine (mAge_any a cap L q r (t + m) (2147483647 + m) _ SM HV F2 W2 HG).mono ?_; rintro e w3 ⟨rfl, hb3⟩
      have B3 := box (B2.out.trans (hb3.mono B2.out.size))
      have W3 := box (W2.out.below hb3)
      clear hb3
      go_wp2_with fail
      refine (awake23_any _ W3.out).mono ?_; rintro e w4 ⟨rfl, hb4⟩
      have B4 := box (B3.out.trans (hb4.mono B3.out.size))
      clear hb4
      go_wp2
      go_ret
      exact ⟨rfl, B4.out⟩
  · rw [if_neg hxm] at hg
    have HG := box hg
    clear hg
    rcases hs2 with ⟨s1, s2⟩ | ⟨s1, rfl⟩
    · go_enter Tryd.func6, Tryd.ntmps6
      go_wp2_with fail
      refine (keepFields_any a cap L _ HL F0).mono ?_; rintro e w1 ⟨rfl, rfl⟩; rw [HK.out]
      go_wp2_with fail
      refine (mAge_any a cap L q r t x _ SM HV F0 W0 HX).mono ?_; rintro e w2 ⟨rfl, hb2⟩
      have B2 := box hb2
      have F2 := box (F0.out.below hb2)
      have W2 := box (W0.out.below hb2)
      clear hb2
      go_wp2_with fail
      refine (mAge_any a cap L q r (t + m) 2147483647 _ SM HV F2 W2 HG).mono ?_; rintro e w3 ⟨rfl, hb3⟩
      have B3 := box (B2.out.trans (hb3.mono B2.out.size))
      have W3 := box (W2.out.below hb3)
      clear hb3
      go_wp2_with fail
      refine (awake23_any _ W3.out).mono ?_; rintro e w4 ⟨rfl, hb4⟩
      have B4 := box (B3.out.trans (hb4.mono B3.out.size))
      clear hb4
      go_wp2
      go_ret
      exact ⟨rfl, B4.out⟩
    · go_enter Tryd.func6, Tryd.ntmps6
      go_wp2_with fail
      refine (keepFields_any a cap L _ HL F0).mono ?_; rintro e w1 ⟨rfl, rfl⟩; rw [HK.out]
      go_wp2_with fail
      refine (mAge_any a cap L q r t 2147483647 _ SM HV F0 W0 HX).mono ?_; rintro e w2 ⟨rfl, hb2⟩
      have B2 := box hb2
      have F2 := box (F0.out.below hb2)
      have W2 := box (W0.out.below hb2)
      clear hb2
      go_wp2_with fail
      refine (mAge_any a cap L q r (t + m) 2147483647 _ SM HV F2 W2 HG).mono ?_; rintro e w3 ⟨rfl, hb3⟩
      have B3 := box (B2.out.trans (hb3.mono B2.out.size))
      have W3 := box (W2.out.below hb3)
      clear hb3
      go_wp2_with fail
      refine (awake23_any _ W3.out).mono ?_; rintro e w4 ⟨rfl, hb4⟩
      have B4 := box (B3.out.trans (hb4.mono B3.out.size))
      clear hb4
      go_wp2
      go_ret
      exact ⟨rfl, B4.out⟩
end
end Go.Proofs.YteemoibikkmlbaaDoor.Asc
