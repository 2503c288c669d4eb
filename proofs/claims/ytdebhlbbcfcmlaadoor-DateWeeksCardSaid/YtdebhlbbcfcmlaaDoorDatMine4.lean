/- The contract of package date's Format, over the developers' code of 00e4332. -/
import Derived.Test.YtdebhlbbcfcmlaaDoorDatMine3
import Derived.Deep.RegionHeld3
set_option linter.unusedVariables false
set_option linter.unusedSimpArgs false
set_option maxRecDepth 100000
namespace Go.Proofs.YtdebhlbbcfcmlaaDoor.Asc
open Go.RowKit

set_option maxHeartbeats 4000000 in
theorem mFmt_in (T n s y m d : Nat) (w : World) (hT : T = n * 86400 + s) (hs : s < 86400) (hc : IsCal n y m d) (hW : Tabs w) :
    Calls Tryd.prog 12 #[.int .i64 T] w fun e w' => e = .returned (.string (bs (dateL y m d n s))) ∧ Below w.heap.size w w' := by
  have hn := cal_lt hc
  have HC := box hc
  have HT := box hW
  obtain ⟨⟨y1, y2⟩, ⟨m1, m2⟩, d1, d2⟩ := hc.1
  have d3 : d < 100 := by have := (len_le (leapN y) m1 m2).1; omega
  have i1 : ¬ (T : Int) < 0 := by omega
  have i2 : ¬ (253402300799 : Int) < (T : Int) := by omega
  have hq : (T : Int) / 86400 = (n : Int) := by omega
  have hm : (T : Int) % 86400 = (s : Int) := by omega
  obtain ⟨a, ha⟩ : ∃ a, n % 7 = a := ⟨_, rfl⟩
  have ha7 : a < 7 := by omega
  obtain ⟨K, hK⟩ : ∃ K, m - 1 = K := ⟨_, rfl⟩
  have CW := box (hW.wk a ha7)
  have CM : Box (w.cell? ⟨1, K, none⟩ = some (.string (bs (monL m)))) := box (by have := hW.mo K (by omega); rw [show K + 1 = m from by omega] at this; exact this)
  have DY4 : Box (bs (decL (y : Int)) = bs (fourL y)) := box (by rw [dec_fourL (by omega) (by omega)])
  obtain ⟨z1, h1⟩ : ∃ z, wkL a ++ [44, 32] = z := ⟨_, rfl⟩
  obtain ⟨z2, h2⟩ : ∃ z, z1 ++ twoL d = z := ⟨_, rfl⟩
  obtain ⟨z3, h3⟩ : ∃ z, z2 ++ [32] = z := ⟨_, rfl⟩
  obtain ⟨z4, h4⟩ : ∃ z, z3 ++ monL m = z := ⟨_, rfl⟩
  obtain ⟨z5, h5⟩ : ∃ z, z4 ++ [32] = z := ⟨_, rfl⟩
  obtain ⟨z6, h6⟩ : ∃ z, z5 ++ fourL y = z := ⟨_, rfl⟩
  obtain ⟨z7, h7⟩ : ∃ z, z6 ++ [32] = z := ⟨_, rfl⟩
  obtain ⟨z8, h8⟩ : ∃ z, z7 ++ clkL s = z := ⟨_, rfl⟩
  obtain ⟨z9, h9⟩ : ∃ z, z8 ++ [32, 71, 77, 84] = z := ⟨_, rfl⟩
  have HZ : Box (bs z9 = bs (dateL y m d n s)) := box (by
    rw [← h9, ← h8, ← h7, ← h6, ← h5, ← h4, ← h3, ← h2, ← h1]
    unfold dateL
    rw [ha])
  have hz : z9.length = 29 := by rw [bs_inj HZ.out]; exact date_len m1 m2
  have l8 : z8.length ≤ 1000 := by rw [← h9, List.length_append] at hz; omega
  have l7 : z7.length ≤ 1000 := by rw [← h8, List.length_append] at l8; omega
  have l6 : z6.length ≤ 1000 := by rw [← h7, List.length_append] at l7; omega
  have l5 : z5.length ≤ 1000 := by rw [← h6, List.length_append] at l6; omega
  have l4 : z4.length ≤ 1000 := by rw [← h5, List.length_append] at l5; omega
  have l3 : z3.length ≤ 1000 := by rw [← h4, List.length_append] at l4; omega
  have l2 : z2.length ≤ 1000 := by rw [← h3, List.length_append] at l3; omega
  have l1 : z1.length ≤ 1000 := by rw [← h2, List.length_append] at l2; omega
  have R1 : Box (∀ w, (Op.stringOp .add (bs (wkL a)) ⟨#[44, 32]⟩).run Tryd.prog w = .ok (.string (bs z1)) w) := box (add20 (box h1) l1)
  have R2 : Box (∀ w, (Op.stringOp .add (bs z1) (bs (twoL d))).run Tryd.prog w = .ok (.string (bs z2)) w) := box (add20 (box h2) l2)
  have R3 : Box (∀ w, (Op.stringOp .add (bs z2) ⟨#[32]⟩).run Tryd.prog w = .ok (.string (bs z3)) w) := box (add20 (box h3) l3)
  have R4 : Box (∀ w, (Op.stringOp .add (bs z3) (bs (monL m))).run Tryd.prog w = .ok (.string (bs z4)) w) := box (add20 (box h4) l4)
  have R5 : Box (∀ w, (Op.stringOp .add (bs z4) ⟨#[32]⟩).run Tryd.prog w = .ok (.string (bs z5)) w) := box (add20 (box h5) l5)
  have R6 : Box (∀ w, (Op.stringOp .add (bs z5) (bs (fourL y))).run Tryd.prog w = .ok (.string (bs z6)) w) := box (add20 (box h6) l6)
  have R7 : Box (∀ w, (Op.stringOp .add (bs z6) ⟨#[32]⟩).run Tryd.prog w = .ok (.string (bs z7)) w) := box (add20 (box h7) l7)
  have R8 : Box (∀ w, (Op.stringOp .add (bs z7) (bs (clkL s))).run Tryd.prog w = .ok (.string (bs z8)) w) := box (add20 (box h8) l8)
  have R9 : Box (∀ w, (Op.stringOp .add (bs z8) ⟨#[32, 71, 77, 84]⟩).run Tryd.prog w = .ok (.string (bs z9)) w) := box (add20 (box h9) (by omega))
  have FA : Box ((n : Int).tmod 7 = (a : Int) ∧ IntKind.i64.wrap (a : Int) = (a : Int) ∧ (m : Int) - 1 = (K : Int) ∧ IntKind.i64.wrap (K : Int) = (K : Int)) := box ⟨by rw [Int.tmod_eq_emod_of_nonneg (by omega)]; omega, IntWalk.i64_in _ (by omega), by omega, IntWalk.i64_in _ (by omega)⟩
  have FB : Box (((0 : Int) ≤ (a : Int) ∧ (a : Int) < 7) ∧ (0 : Int) ≤ (K : Int) ∧ (K : Int) < 12) := box (by omega)
  clear hT d2 hc h1 h2 h3 h4 h5 h6 h7 h8 h9 l1 l2 l3 l4 l5 l6 l7 l8 hz ha hK ha7 hW
  go_enter Tryd.func12, Tryd.ntmps12
  go_wp2_with fail
  refine (mCal_any n y m d _ HT.out HC.out).mono ?_; rintro e w0 ⟨rfl, rfl⟩
  go_wp2_with fail
  obtain ⟨f1, f2, f3, f4⟩ := FA.out
  obtain ⟨⟨e1, e2⟩, e3, e4⟩ := FB.out
  have r1 := R1.out
  have r2 := R2.out
  have r3 := R3.out
  have r4 := R4.out
  have r5 := R5.out
  have r6 := R6.out
  have r7 := R7.out
  have r8 := R8.out
  have r9 := R9.out
  have S1 := box HT.out.s1
  have S2 := box HT.out.s2
  have B0 := box ((Below.refl w.heap.size w).drew)
  go_region_held3 (fun w' => w'.cell? ⟨0, a, none⟩ = some (.string (bs (wkL a))) ∧ w'.cell? ⟨1, K, none⟩ = some (.string (bs (monL m)))) (first | exact ⟨(B3.out.cell S1.out).trans CW.out, (B3.out.cell S2.out).trans CM.out⟩ | exact ⟨(B2.out.cell S1.out).trans CW.out, (B2.out.cell S2.out).trans CM.out⟩ | exact ⟨(B1.out.cell S1.out).trans CW.out, (B1.out.cell S2.out).trans CM.out⟩ | exact ⟨(B0.out.cell S1.out).trans CW.out, (B0.out.cell S2.out).trans CM.out⟩) (first | (go_at_call 22; refine (mClock_any s _ hs).mono ?_; rintro e w3 ⟨rfl, hb3⟩; have B3 := box (B2.out.trans (hb3.mono B2.out.size))) | (go_at_call 21; refine (Dec20_is ⟨by omega, by omega⟩ DY4).mono ?_; rintro e w2 ⟨rfl, hb2⟩; have B2 := box (B1.out.trans (hb2.mono B1.out.size))) | (go_at_call 20; refine (mTwo_any d _ d3).mono ?_; rintro e w1 ⟨rfl, hb1⟩; have B1 := box (B0.out.trans (hb1.mono B0.out.size))))
  go_wp2
  go_ret
  exact ⟨by rw [← HZ.out]; rfl, B3.out⟩
theorem mFmt_any (t : Int) (x : List UInt8) (w : World) (hx : FmtIs t x) (hW : Tabs w) :
    Calls Tryd.prog 12 #[.int .i64 t] w fun e w' => e = .returned (.string (bs x)) ∧ Below w.heap.size w w' := by
  rcases hx with ⟨n, s, y, m, d, rfl, hs, hc, rfl⟩ | ⟨h, rfl⟩
  · exact mFmt_in _ n s y m d w rfl hs hc hW
  · clear hW
    rcases h with h | h
    · go_enter Tryd.func12, Tryd.ntmps12
      go_wp2
      go_ret
      exact ⟨rfl, Below.refl _ _⟩
    · have h0 : ¬ t < 0 := by omega
      go_enter Tryd.func12, Tryd.ntmps12
      go_wp2
      go_ret
      exact ⟨rfl, Below.refl _ _⟩

end Go.Proofs.YtdebhlbbcfcmlaaDoor.Asc
