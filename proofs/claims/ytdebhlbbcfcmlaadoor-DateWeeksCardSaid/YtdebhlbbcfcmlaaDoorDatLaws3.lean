/- The walk of the law DateWeeks. -/
import Derived.Test.YtdebhlbbcfcmlaaDoorDatLaws2
set_option linter.unusedVariables false
set_option linter.unusedSimpArgs false
set_option maxRecDepth 100000
namespace Go.Proofs.YtdebhlbbcfcmlaaDoor.Asc
open Go.RowKit

/-- a time and the one a week later: the same name, the same clock -/
theorem week_same {t : Int} {x z : List UInt8} (h0 : 0 ≤ t) (h1 : t ≤ 253400000000) (hx : FmtIs t x) (hz : FmtIs (t + 604800) z) :
    x.length = 29 ∧ z.length = 29 ∧ x.take 3 = z.take 3 ∧ x.drop 17 = z.drop 17 := by
  rcases hx with hx | ⟨h, _⟩
  · rcases hz with hz | ⟨h, _⟩
    · refine ⟨text_len hx, text_len hz, ?_⟩
      obtain ⟨n, s, y, m, d, rfl, hs, hc, rfl⟩ := hx
      obtain ⟨n', s', y', m', d', e, hs', hc', rfl⟩ := hz
      obtain rfl : n' = n + 7 := by omega
      obtain rfl : s' = s := by omega
      obtain ⟨a, b, c, hw⟩ := wk_three (Nat.mod_lt n (by omega : 0 < 7))
      have hw' : wkL ((n + 7) % 7) = [a, b, c] := by rw [show (n + 7) % 7 = n % 7 from by omega]; exact hw
      obtain ⟨p, q, r, hm⟩ := mon_three hc.1.2.1.1 hc.1.2.1.2
      obtain ⟨p', q', r', hm'⟩ := mon_three hc'.1.2.1.1 hc'.1.2.1.2
      have e1 : dateL y m d n s' = [a, b, c, 44, 32, digB (d / 10), digB d, 32, p, q, r, 32, digB (y / 1000), digB (y / 100), digB (y / 10), digB y, 32] ++ (clkL s' ++ [32, 71, 77, 84]) := by
        unfold dateL twoL fourL; rw [hw, hm]; rfl
      have e2 : dateL y' m' d' (n + 7) s' = [a, b, c, 44, 32, digB (d' / 10), digB d', 32, p', q', r', 32, digB (y' / 1000), digB (y' / 100), digB (y' / 10), digB y', 32] ++ (clkL s' ++ [32, 71, 77, 84]) := by
        unfold dateL twoL fourL; rw [hw', hm']; rfl
      rw [e1, e2]
      exact ⟨rfl, rfl⟩
    · omega
  · omega
theorem weeks20_walk (t : Int) (w : World) (hw : (Lit.int .i64 t).wf = true) (hW : Tabs w) :
    Calls Tryd.prog 8 #[.int .i64 t] w fun e w' => e = .returned (.bool true) ∧ Below w.heap.size w w' := by
  have HT := box hW
  clear hW hw
  by_cases h0 : t < 0
  · go_enter Tryd.func8, Tryd.ntmps8
    go_wp2
    go_ret
    exact ⟨rfl, Below.refl _ _⟩
  by_cases h1 : (253400000000 : Int) < t
  · go_enter Tryd.func8, Tryd.ntmps8
    go_wp2
    go_ret
    exact ⟨rfl, Below.refl _ _⟩
  obtain ⟨x, hx⟩ := fmt_exists t
  obtain ⟨z, hz⟩ := fmt_exists (t + 604800)
  obtain ⟨lx, lz, e3, e17⟩ := week_same (by omega) (by omega) hx hz
  have HX := box hx
  have HZ := box hz
  have sx : (bs x).size = 29 := by rw [bs_size]; exact lx
  have sz : (bs z).size = 29 := by rw [bs_size]; exact lz
  have g1 : (((bs x).extract 0 3).toList == ((bs z).extract 0 3).toList) = true := by
    rw [ext_bs, ext_bs, toList_bs, toList_bs, bs_toList, bs_toList, beq_iff_eq]; exact e3
  have g2 : (((bs x).extract 17 29).toList == ((bs z).extract 17 29).toList) = true := by
    rw [ext_bs, ext_bs, toList_bs, toList_bs, bs_toList, bs_toList, beq_iff_eq, List.take_of_length_le (by omega), List.take_of_length_le (by omega)]; exact e17
  clear hx hz lx lz e3 e17
  go_enter Tryd.func8, Tryd.ntmps8
  go_wp2_with fail
  refine (mFmt_any _ _ _ HX.out HT.out).mono ?_; rintro e w1 ⟨rfl, hb1⟩
  have B1 := box hb1
  clear hb1
  go_wp2_with fail
  refine (mFmt_any _ _ _ HZ.out (HT.out.below B1.out)).mono ?_; rintro e w2 ⟨rfl, hb2⟩
  have B2 := box (B1.out.trans (hb2.mono B1.out.size))
  clear hb2
  go_wp2_with fail
  have B3 := box B2.out.drew
  go_region_held3 (fun _ => True) (first | exact trivial) (first | (go_at_call 11; refine (awake20_any _ (HT.out.below B3.out)).mono ?_; rintro e w4 ⟨rfl, hb4⟩; have B4 := box (B3.out.trans (hb4.mono B3.out.size))))
  go_wp2
  go_ret
  exact ⟨rfl, B4.out⟩

end Go.Proofs.YtdebhlbbcfcmlaaDoor.Asc
