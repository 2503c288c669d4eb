/- The contract of the reference's FormatDate. -/
import Derived.Test.YtdebhlbbcfcmlaaDoorDatRef3
import Derived.Deep.RegionHeld3
set_option linter.unusedVariables false
set_option linter.unusedSimpArgs false
set_option maxRecDepth 100000
namespace Go.Proofs.YtdebhlbbcfcmlaaDoor.Asc
open Go.RowKit

theorem rDays20_is {y m d v : Int} {w : World} (h : Box (daysV y m d = v)) :
    Calls Tryd.prog 15 #[.int .i64 y, .int .i64 m, .int .i64 d] w fun e w' => e = .returned (.int .i64 v) ∧ w = w' :=
  (rDays_any y m d w).mono fun e w' ⟨h1, h2⟩ => ⟨by rw [h1, h.out], h2⟩
theorem days_first {k : Nat} (h1 : 1969 ≤ k) (h2 : k ≤ 9998) : daysV ((k : Int) + 1) 1 1 = (dbyN (k + 1) : Nat) := by
  have hl := (len_le (leapN (k + 1)) (by omega : 1 ≤ 1) (by omega : 1 ≤ 12)).2
  exact days_yes (y := k + 1) (m := 1) (d := 1) ⟨⟨by omega, by omega⟩, ⟨by omega, by omega⟩, by omega, by omega⟩
theorem days_month {y j : Nat} (h1 : 1970 ≤ y) (h2 : y ≤ 9999) (h3 : j ≤ 11) : daysV (y : Int) ((j : Int) + 1) 1 = (dbyN y + cumM (leapN y) (j + 1) : Nat) := by
  have hl := (len_le (leapN y) (by omega : 1 ≤ j + 1) (by omega : j + 1 ≤ 12)).2
  exact days_yes (y := y) (m := j + 1) (d := 1) ⟨⟨h1, h2⟩, ⟨by omega, by omega⟩, by omega, by omega⟩
theorem add_bs {a b z : List UInt8} (h : Box (a ++ b = z)) (hz : z.length ≤ 1000) (w : World) : (Op.stringOp .add (bs a) (bs b)).run Tryd.prog w = .ok (.string (bs z)) w := by
  have := congrArg List.length h.out
  rw [List.length_append] at this
  rw [run_string_add_sum w _ _ (by rw [bs_size, bs_size]; omega), ← h.out]; rfl
/-- a name out of the joined names -/
theorem wk_ext {k : Nat} (h : k < 7) : (⟨#[84, 104, 117, 70, 114, 105, 83, 97, 116, 83, 117, 110, 77, 111, 110, 84, 117, 101, 87, 101, 100]⟩ : ByteArray).extract (3 * k) (3 * k + 3) = bs (wkL k) := by
  rw [ext_bs]
  have key : ∀ k : Fin 7, ((([84, 104, 117, 70, 114, 105, 83, 97, 116, 83, 117, 110, 77, 111, 110, 84, 117, 101, 87, 101, 100] : List UInt8).take (3 * k.1 + 3)).drop (3 * k.1)) = wkL k.1 := by decide
  exact congrArg bs (key ⟨k, h⟩)
theorem mon_ext {k : Nat} (h : k < 12) : (⟨#[74, 97, 110, 70, 101, 98, 77, 97, 114, 65, 112, 114, 77, 97, 121, 74, 117, 110, 74, 117, 108, 65, 117, 103, 83, 101, 112, 79, 99, 116, 78, 111, 118, 68, 101, 99]⟩ : ByteArray).extract (3 * k) (3 * k + 3) = bs (monL (k + 1)) := by
  rw [ext_bs]
  have key : ∀ k : Fin 12, ((([74, 97, 110, 70, 101, 98, 77, 97, 114, 65, 112, 114, 77, 97, 121, 74, 117, 110, 74, 117, 108, 65, 117, 103, 83, 101, 112, 79, 99, 116, 78, 111, 118, 68, 101, 99] : List UInt8).take (3 * k.1 + 3)).drop (3 * k.1)) = monL (k.1 + 1) := by decide
  exact congrArg bs (key ⟨k, h⟩)
theorem run_three {s x : ByteArray} {A : Nat} (h : A + 3 ≤ s.size) (hx : s.extract A (A + 3) = x) (w : World) : (Instr.slice 9 (.string s) (some (.int .i64 (A : Int))) (some (.int .i64 ((A : Int) + 3))) none).run Tryd.prog w = .ok (.string x) w := by
  have h0 : (0 : Int) ≤ (A : Int) := by omega
  have h1 : (A : Int) ≤ (A : Int) + 3 := by omega
  have h2 : (A : Int) + 3 ≤ (s.size : Int) := by omega
  subst hx
  have h3 : (0 : Int) ≤ (A : Int) + 3 := by omega
  have h4 : ((A : Int) + 3).toNat = A + 3 := by omega
  have h5 : A ≤ A + 3 := by omega
  simp [Instr.slice, Instr.sliceBounds, Instr.sliceBound, run_underlying Tryd.underlying9, asIntOf, Result.andThen, h0, h1, h2, h3, h4, h5]
set_option maxHeartbeats 8000000 in
theorem rFmt20_in (T n s y m d : Nat) (w : World) (hT : T = n * 86400 + s) (hs : s < 86400) (hc : IsCal n y m d) :
    Calls Tryd.prog 13 #[.int .i64 T] w fun e w' => e = .returned (.string (bs (dateL y m d n s))) ∧ Below w.heap.size w w' := by
  have hn := cal_lt hc
  have HC := box hc
  obtain ⟨⟨y1, y2⟩, ⟨m1, m2⟩, d1, d2⟩ := hc.1
  have hr := cal_range hc
  have HR : Box (((n : Int) - ((dbyN y + cumM (leapN y) m : Nat) : Int) + 1) = (d : Int)) := box (by omega)
  have i1 : ¬ (T : Int) < 0 := by omega
  have i2 : ¬ (253402300799 : Int) < (T : Int) := by omega
  have hq : (T : Int) / 86400 = (n : Int) := by omega
  have hm : (T : Int) % 86400 = (s : Int) := by omega
  obtain ⟨a, ha⟩ : ∃ a, n % 7 = a := ⟨_, rfl⟩
  have ha7 : a < 7 := by omega
  obtain ⟨A, hA⟩ : ∃ A, 3 * a = A := ⟨_, rfl⟩
  obtain ⟨B, hB⟩ : ∃ B, 3 * (m - 1) = B := ⟨_, rfl⟩
  obtain ⟨Q, hQ⟩ : ∃ Q, s / 60 = Q := ⟨_, rfl⟩
  obtain ⟨H, hH⟩ : ∃ H, s / 3600 = H := ⟨_, rfl⟩
  obtain ⟨MI, hMI⟩ : ∃ MI, s / 60 % 60 = MI := ⟨_, rfl⟩
  obtain ⟨SS, hSS⟩ : ∃ SS, s % 60 = SS := ⟨_, rfl⟩
  have FA : Box ((n : Int) % 7 = (a : Int) ∧ 3 * (a : Int) = (A : Int) ∧ (A : Int) + 3 ≤ 21 ∧ 3 * (m : Int) = (B : Int) + 3 ∧ (B : Int) + 3 ≤ 36) := box (by omega)
  have FW : Box (IntKind.i64.wrap (A : Int) = (A : Int) ∧ IntKind.i64.wrap ((A : Int) + 3) = (A : Int) + 3 ∧ IntKind.i64.wrap (B : Int) = (B : Int) ∧ IntKind.i64.wrap ((B : Int) + 3) = (B : Int) + 3) := box ⟨IntWalk.i64_in _ (by omega), IntWalk.i64_in _ (by omega), IntWalk.i64_in _ (by omega), IntWalk.i64_in _ (by omega)⟩
  have FS : Box ((s : Int) / 60 = (Q : Int) ∧ (s : Int) / 3600 = (H : Int) ∧ (Q : Int) % 60 = (MI : Int) ∧ (s : Int) % 60 = (SS : Int)) := box (by omega)
  have FB : Box (H < 100 ∧ MI < 100 ∧ SS < 100 ∧ d < 100) := box (by have := (len_le (leapN y) m1 m2).1; omega)
  have XA : Box (∀ w, (Instr.slice 9 (.string ⟨#[84, 104, 117, 70, 114, 105, 83, 97, 116, 83, 117, 110, 77, 111, 110, 84, 117, 101, 87, 101, 100]⟩) (some (.int .i64 (A : Int))) (some (.int .i64 ((A : Int) + 3))) none).run Tryd.prog w = .ok (.string (bs (wkL a))) w) := box (run_three (by show A + 3 ≤ 21; omega) (by rw [← hA]; exact wk_ext ha7))
  have XB : Box (∀ w, (Instr.slice 9 (.string ⟨#[74, 97, 110, 70, 101, 98, 77, 97, 114, 65, 112, 114, 77, 97, 121, 74, 117, 110, 74, 117, 108, 65, 117, 103, 83, 101, 112, 79, 99, 116, 78, 111, 118, 68, 101, 99]⟩) (some (.int .i64 (B : Int))) (some (.int .i64 ((B : Int) + 3))) none).run Tryd.prog w = .ok (.string (bs (monL m))) w) := box (run_three (by show B + 3 ≤ 36; omega) (by have := mon_ext (k := m - 1) (by omega); rw [hB, show m - 1 + 1 = m from by omega] at this; exact this))
  have DY4 : Box (bs (decL (y : Int)) = bs (fourL y)) := box (by rw [dec_fourL (by omega) (by omega)])
  obtain ⟨z1, h1⟩ : ∃ z, wkL a ++ [44, 32] = z := ⟨_, rfl⟩
  obtain ⟨z2, h2⟩ : ∃ z, z1 ++ twoL d = z := ⟨_, rfl⟩
  obtain ⟨z3, h3⟩ : ∃ z, z2 ++ [32] = z := ⟨_, rfl⟩
  obtain ⟨z4, h4⟩ : ∃ z, z3 ++ monL m = z := ⟨_, rfl⟩
  obtain ⟨z5, h5⟩ : ∃ z, z4 ++ [32] = z := ⟨_, rfl⟩
  obtain ⟨z6, h6⟩ : ∃ z, z5 ++ fourL y = z := ⟨_, rfl⟩
  obtain ⟨z7, h7⟩ : ∃ z, z6 ++ [32] = z := ⟨_, rfl⟩
  obtain ⟨z8, h8⟩ : ∃ z, z7 ++ twoL H = z := ⟨_, rfl⟩
  obtain ⟨z9, h9⟩ : ∃ z, z8 ++ [58] = z := ⟨_, rfl⟩
  obtain ⟨z10, h10⟩ : ∃ z, z9 ++ twoL MI = z := ⟨_, rfl⟩
  obtain ⟨z11, h11⟩ : ∃ z, z10 ++ [58] = z := ⟨_, rfl⟩
  obtain ⟨z12, h12⟩ : ∃ z, z11 ++ twoL SS = z := ⟨_, rfl⟩
  obtain ⟨z13, h13⟩ : ∃ z, z12 ++ [32, 71, 77, 84] = z := ⟨_, rfl⟩
  have HZ : Box (bs z13 = bs (dateL y m d n s)) := box (by
    rw [← h13, ← h12, ← h11, ← h10, ← h9, ← h8, ← h7, ← h6, ← h5, ← h4, ← h3, ← h2, ← h1]
    unfold dateL clkL
    rw [ha, hH, hMI, hSS]
    simp only [List.append_assoc])
  have hz : z13.length = 29 := by rw [bs_inj HZ.out]; exact date_len m1 m2
  have l12 : z12.length ≤ 1000 := by rw [← h13, List.length_append] at hz; omega
  have l11 : z11.length ≤ 1000 := by rw [← h12, List.length_append] at l12; omega
  have l10 : z10.length ≤ 1000 := by rw [← h11, List.length_append] at l11; omega
  have l9 : z9.length ≤ 1000 := by rw [← h10, List.length_append] at l10; omega
  have l8 : z8.length ≤ 1000 := by rw [← h9, List.length_append] at l9; omega
  have l7 : z7.length ≤ 1000 := by rw [← h8, List.length_append] at l8; omega
  have l6 : z6.length ≤ 1000 := by rw [← h7, List.length_append] at l7; omega
  have l5 : z5.length ≤ 1000 := by rw [← h6, List.length_append] at l6; omega
  have l4 : z4.length ≤ 1000 := by rw [← h5, List.length_append] at l5; omega
  have l3 : z3.length ≤ 1000 := by rw [← h4, List.length_append] at l4; omega
  have l2 : z2.length ≤ 1000 := by rw [← h3, List.length_append] at l3; omega
  have l1 : z1.length ≤ 1000 := by rw [← h2, List.length_append] at l2; omega
  have R1 : Box (∀ w, (Op.stringOp .add (bs (wkL a)) ⟨#[44, 32]⟩).run Tryd.prog w = .ok (.string (bs z1)) w) := box (add_bs (box h1) l1)
  have R2 : Box (∀ w, (Op.stringOp .add (bs z1) (bs (twoL d))).run Tryd.prog w = .ok (.string (bs z2)) w) := box (add_bs (box h2) l2)
  have R3 : Box (∀ w, (Op.stringOp .add (bs z2) ⟨#[32]⟩).run Tryd.prog w = .ok (.string (bs z3)) w) := box (add_bs (box h3) l3)
  have R4 : Box (∀ w, (Op.stringOp .add (bs z3) (bs (monL m))).run Tryd.prog w = .ok (.string (bs z4)) w) := box (add_bs (box h4) l4)
  have R5 : Box (∀ w, (Op.stringOp .add (bs z4) ⟨#[32]⟩).run Tryd.prog w = .ok (.string (bs z5)) w) := box (add_bs (box h5) l5)
  have R6 : Box (∀ w, (Op.stringOp .add (bs z5) (bs (fourL y))).run Tryd.prog w = .ok (.string (bs z6)) w) := box (add_bs (box h6) l6)
  have R7 : Box (∀ w, (Op.stringOp .add (bs z6) ⟨#[32]⟩).run Tryd.prog w = .ok (.string (bs z7)) w) := box (add_bs (box h7) l7)
  have R8 : Box (∀ w, (Op.stringOp .add (bs z7) (bs (twoL H))).run Tryd.prog w = .ok (.string (bs z8)) w) := box (add_bs (box h8) l8)
  have R9 : Box (∀ w, (Op.stringOp .add (bs z8) ⟨#[58]⟩).run Tryd.prog w = .ok (.string (bs z9)) w) := box (add_bs (box h9) l9)
  have R10 : Box (∀ w, (Op.stringOp .add (bs z9) (bs (twoL MI))).run Tryd.prog w = .ok (.string (bs z10)) w) := box (add_bs (box h10) l10)
  have R11 : Box (∀ w, (Op.stringOp .add (bs z10) ⟨#[58]⟩).run Tryd.prog w = .ok (.string (bs z11)) w) := box (add_bs (box h11) l11)
  have R12 : Box (∀ w, (Op.stringOp .add (bs z11) (bs (twoL SS))).run Tryd.prog w = .ok (.string (bs z12)) w) := box (add_bs (box h12) l12)
  have R13 : Box (∀ w, (Op.stringOp .add (bs z12) ⟨#[32, 71, 77, 84]⟩).run Tryd.prog w = .ok (.string (bs z13)) w) := box (add_bs (box h13) (by omega))
  clear h1 h2 h3 h4 h5 h6 h7 h8 h9 h10 h11 h12 h13 l1 l2 l3 l4 l5 l6 l7 l8 l9 l10 l11 l12 hz ha hA hB hQ hH hMI hSS ha7
  clear hT d2 hr hc
  go_enter Tryd.func13, Tryd.ntmps13
  go_wp2
  go_loop [5] (fun i => ∃ k : Nat, 1970 ≤ k ∧ k ≤ y ∧ i = .int .i64 k) (fun i => y - (intOf i).toNat)
  case atStart => exact ⟨1970, by omega, y1, rfl⟩
  case round =>
    obtain ⟨k, k1, k2, rfl⟩ := hrel
    by_cases hlt : k < y
    · have HD := box (days_first (k := k) (by omega) (by omega))
      obtain ⟨D, hD⟩ : ∃ D, dbyN (k + 1) = D := ⟨_, rfl⟩
      have hg : D ≤ n := by rw [← hD]; exact (year_lt HC.out k1).1 hlt
      rw [hD] at HD
      have g1 : (k : Int) < 9999 := by omega
      have g2 : (D : Int) ≤ (n : Int) := by omega
      clear hD
      go_wp2_with (go_at_call 15; refine (rDays20_is HD).mono ?_; rintro e w' ⟨rfl, rfl⟩)
      go_round
      case rel => exact ⟨k + 1, by omega, by omega, by go_num⟩
      case measure => simp [intOf]; omega
    · obtain rfl : k = y := by omega
      have hy := (cal_year HC.out).2
      obtain ⟨DY, hDY⟩ : ∃ D, dbyN (k + 1) = D := ⟨_, rfl⟩
      have HY : Box (k < 9999 → daysV ((k : Int) + 1) 1 1 = ((DY : Nat) : Int)) := box (fun q => by rw [← hDY]; exact days_first (by omega) (by omega))
      rw [hDY] at hy
      have hk : ((k : Int) < 9999 ∧ k < 9999) ∨ ((¬ (k : Int) < 9999) ∧ k = 9999) := by omega
      have g2 : ¬ (DY : Int) ≤ (n : Int) := by omega
      have g3 : decide (DY ≤ n) = false := decide_eq_false (by omega)
      clear hDY
      rcases hk with ⟨g1, hk⟩ | ⟨g1, hk⟩
      all_goals
        have HKK := box hk
        clear hk
        go_wp2_with (go_at_call 15; refine (rDays20_is (box (HY.out HKK.out))).mono ?_; rintro e w' ⟨rfl, rfl⟩)
        go_loop [6] (fun i => ∃ j : Nat, 1 ≤ j ∧ j ≤ m ∧ i = .int .i64 j) (fun i => m - (intOf i).toNat)
        case atStart => exact ⟨1, by omega, m1, rfl⟩
        case round =>
          obtain ⟨j, j1, j2, rfl⟩ := hrel
          by_cases hjt : j < m
          · have HD := box (days_month (y := k) (j := j) y1 (by omega) (by omega))
            obtain ⟨D, hD⟩ : ∃ D, dbyN k + cumM (leapN k) (j + 1) = D := ⟨_, rfl⟩
            have hg : D ≤ n := by rw [← hD]; exact (month_lt HC.out j1).1 hjt
            rw [hD] at HD
            have q1 : (j : Int) < 12 := by omega
            have q2 : (D : Int) ≤ (n : Int) := by omega
            clear hD
            go_wp2_with (go_at_call 15; refine (rDays20_is HD).mono ?_; rintro e w' ⟨rfl, rfl⟩)
            go_round
            case rel => exact ⟨j + 1, by omega, by omega, by go_num⟩
            case measure => simp [intOf]; omega
          · obtain rfl : j = m := by omega
            have hm3 := (cal_range HC.out).2.1
            obtain ⟨DM, hDM⟩ : ∃ D, dbyN k + cumM (leapN k) (j + 1) = D := ⟨_, rfl⟩
            have HM : Box (j < 12 → daysV (k : Int) ((j : Int) + 1) 1 = ((DM : Nat) : Int)) := box (fun q => by rw [← hDM]; exact days_month y1 (by omega) (by omega))
            rw [hDM] at hm3
            have HN : Box (daysV (k : Int) (j : Int) 1 = ((dbyN k + cumM (leapN k) j : Nat) : Int)) := box (by
              have := days_month (y := k) (j := j - 1) y1 (by omega) (by omega)
              rw [show ((j - 1 : Nat) : Int) + 1 = (j : Int) from by omega, show j - 1 + 1 = j from by omega] at this
              exact this)
            obtain ⟨DN, hDN⟩ : ∃ D, dbyN k + cumM (leapN k) j = D := ⟨_, rfl⟩
            rw [hDN] at HN HR
            have hj : ((j : Int) < 12 ∧ j < 12) ∨ ((¬ (j : Int) < 12) ∧ j = 12) := by omega
            have q2 : ¬ (DM : Int) ≤ (n : Int) := by omega
            have hR := HR.out
            have hDn : DN ≤ n := by have := (cal_range HC.out).1; omega
            clear hDM hDN
            rcases hj with ⟨q1, hj⟩ | ⟨q1, hj⟩
            · have HJ := box hj
              clear hj
              go_wp2_with fail
              refine (rDays20_is (box (HM.out HJ.out))).mono ?_; rintro e w' ⟨rfl, rfl⟩
              go_wp2_with fail
              refine (rDays20_is HN).mono ?_; rintro e w' ⟨rfl, rfl⟩
              go_wp2_with fail
              obtain ⟨f1, f2, f3, f4, f5⟩ := FA.out
              obtain ⟨e1, e2, e3, e4⟩ := FS.out
              have p1 : (0 : Int) ≤ (n : Int) := by omega
              have p2 : (0 : Int) ≤ (s : Int) := by omega
              have p3 : (0 : Int) ≤ (Q : Int) := by omega
              have t1 : (n : Int).tmod 7 = (a : Int) := by rw [Int.tmod_eq_emod_of_nonneg p1]; exact f1
              have t2 : (s : Int).tdiv 60 = (Q : Int) := by rw [Int.tdiv_eq_ediv_of_nonneg p2]; exact e1
              have t3 : (s : Int).tdiv 3600 = (H : Int) := by rw [Int.tdiv_eq_ediv_of_nonneg p2]; exact e2
              have t4 : (Q : Int).tmod 60 = (MI : Int) := by rw [Int.tmod_eq_emod_of_nonneg p3]; exact e3
              have t5 : (s : Int).tmod 60 = (SS : Int) := by rw [Int.tmod_eq_emod_of_nonneg p2]; exact e4
              have u1 : IntKind.i64.wrap (Q : Int) = (Q : Int) := IntWalk.i64_in _ (by omega)
              have u2 : IntKind.i64.wrap (H : Int) = (H : Int) := IntWalk.i64_in _ (by omega)
              have u3 : IntKind.i64.wrap (a : Int) = (a : Int) := IntWalk.i64_in _ (by omega)
              have u4 : IntKind.i64.wrap (MI : Int) = (MI : Int) := IntWalk.i64_in _ (by omega)
              have u5 : IntKind.i64.wrap (SS : Int) = (SS : Int) := IntWalk.i64_in _ (by omega)
              have wa := FW.out.1
              have wb := FW.out.2.1
              have wc := FW.out.2.2.1
              have wd := FW.out.2.2.2
              have xa := XA.out
              have xb := XB.out
              have r1 := R1.out
              have r2 := R2.out
              have r3 := R3.out
              have r4 := R4.out
              have r5 := R5.out
              have r6 := R6.out
              have r7 := R7.out
              have r8 := R8.out
              have r9 := R9.out
              have r10 := R10.out
              have r11 := R11.out
              have r12 := R12.out
              have r13 := R13.out
              have B0 := box ((Below.refl w.heap.size w).drew)
              go_region_held3 (fun _ => True) (first | exact trivial) (first | (go_at_call 23; refine (rTwo_any SS _ FB.out.2.2.1).mono ?_; rintro e w5 ⟨rfl, hb5⟩; have B5 := box (B4.out.trans (hb5.mono B4.out.size))) | (go_at_call 23; refine (rTwo_any MI _ FB.out.2.1).mono ?_; rintro e w4 ⟨rfl, hb4⟩; have B4 := box (B3.out.trans (hb4.mono B3.out.size))) | (go_at_call 23; refine (rTwo_any H _ FB.out.1).mono ?_; rintro e w3 ⟨rfl, hb3⟩; have B3 := box (B2.out.trans (hb3.mono B2.out.size))) | (go_at_call 24; refine (rDec20_is ⟨by omega, by omega⟩ DY4).mono ?_; rintro e w2 ⟨rfl, hb2⟩; have B2 := box (B1.out.trans (hb2.mono B1.out.size))) | (go_at_call 23; refine (rTwo_any d _ FB.out.2.2.2).mono ?_; rintro e w1 ⟨rfl, hb1⟩; have B1 := box (B0.out.trans (hb1.mono B0.out.size))))
              go_wp2
              go_ret
              exact ⟨by rw [← HZ.out]; rfl, B5.out⟩
            · have HJ := box hj
              clear hj
              go_wp2_with fail
              refine (rDays20_is HN).mono ?_; rintro e w' ⟨rfl, rfl⟩
              go_wp2_with fail
              obtain ⟨f1, f2, f3, f4, f5⟩ := FA.out
              obtain ⟨e1, e2, e3, e4⟩ := FS.out
              have p1 : (0 : Int) ≤ (n : Int) := by omega
              have p2 : (0 : Int) ≤ (s : Int) := by omega
              have p3 : (0 : Int) ≤ (Q : Int) := by omega
              have t1 : (n : Int).tmod 7 = (a : Int) := by rw [Int.tmod_eq_emod_of_nonneg p1]; exact f1
              have t2 : (s : Int).tdiv 60 = (Q : Int) := by rw [Int.tdiv_eq_ediv_of_nonneg p2]; exact e1
              have t3 : (s : Int).tdiv 3600 = (H : Int) := by rw [Int.tdiv_eq_ediv_of_nonneg p2]; exact e2
              have t4 : (Q : Int).tmod 60 = (MI : Int) := by rw [Int.tmod_eq_emod_of_nonneg p3]; exact e3
              have t5 : (s : Int).tmod 60 = (SS : Int) := by rw [Int.tmod_eq_emod_of_nonneg p2]; exact e4
              have u1 : IntKind.i64.wrap (Q : Int) = (Q : Int) := IntWalk.i64_in _ (by omega)
              have u2 : IntKind.i64.wrap (H : Int) = (H : Int) := IntWalk.i64_in _ (by omega)
              have u3 : IntKind.i64.wrap (a : Int) = (a : Int) := IntWalk.i64_in _ (by omega)
              have u4 : IntKind.i64.wrap (MI : Int) = (MI : Int) := IntWalk.i64_in _ (by omega)
              have u5 : IntKind.i64.wrap (SS : Int) = (SS : Int) := IntWalk.i64_in _ (by omega)
              have wa := FW.out.1
              have wb := FW.out.2.1
              have wc := FW.out.2.2.1
              have wd := FW.out.2.2.2
              have xa := XA.out
              have xb := XB.out
              have r1 := R1.out
              have r2 := R2.out
              have r3 := R3.out
              have r4 := R4.out
              have r5 := R5.out
              have r6 := R6.out
              have r7 := R7.out
              have r8 := R8.out
              have r9 := R9.out
              have r10 := R10.out
              have r11 := R11.out
              have r12 := R12.out
              have r13 := R13.out
              have B0 := box ((Below.refl w.heap.size w).drew)
              go_region_held3 (fun _ => True) (first | exact trivial) (first | (go_at_call 23; refine (rTwo_any SS _ FB.out.2.2.1).mono ?_; rintro e w5 ⟨rfl, hb5⟩; have B5 := box (B4.out.trans (hb5.mono B4.out.size))) | (go_at_call 23; refine (rTwo_any MI _ FB.out.2.1).mono ?_; rintro e w4 ⟨rfl, hb4⟩; have B4 := box (B3.out.trans (hb4.mono B3.out.size))) | (go_at_call 23; refine (rTwo_any H _ FB.out.1).mono ?_; rintro e w3 ⟨rfl, hb3⟩; have B3 := box (B2.out.trans (hb3.mono B2.out.size))) | (go_at_call 24; refine (rDec20_is ⟨by omega, by omega⟩ DY4).mono ?_; rintro e w2 ⟨rfl, hb2⟩; have B2 := box (B1.out.trans (hb2.mono B1.out.size))) | (go_at_call 23; refine (rTwo_any d _ FB.out.2.2.2).mono ?_; rintro e w1 ⟨rfl, hb1⟩; have B1 := box (B0.out.trans (hb1.mono B0.out.size))))
              go_wp2
              go_ret
              exact ⟨by rw [← HZ.out]; rfl, B5.out⟩

end Go.Proofs.YtdebhlbbcfcmlaaDoor.Asc
