/- The contracts of package date's number, monthOf, twoDigits, clock, over the developers' code of 00e4332. -/
import Derived.Test.YtdebhlbbcfcmlaaDoorDatMine2
import Derived.Test.YtdebhlbbcfcmlaaDoorAscNum
import Derived.Test.YtdebhlbbcfcmlaaDoorAscDec
set_option linter.unusedVariables false
set_option linter.unusedSimpArgs false
set_option maxRecDepth 100000
namespace Go.Proofs.YtdebhlbbcfcmlaaDoor.Asc
open Go.RowKit

theorem add20 {a b z : List UInt8} (h : Box (a ++ b = z)) (hz : z.length ≤ 1000) (w : World) : (Op.stringOp .add (bs a) (bs b)).run Tryd.prog w = .ok (.string (bs z)) w := by
  have := congrArg List.length h.out
  rw [List.length_append] at this
  rw [run_string_add_sum w _ _ (by rw [bs_size, bs_size]; omega), ← h.out]; rfl
theorem mNumber_is {s : ByteArray} {v : Int} {w : World} (hs : s.size ≤ 1000) (hv : Box ((numV (numL s.data.toList)).1 = v)) :
    Calls Tryd.prog 16 #[.string s] w fun e w' => e = .returned (.int .i64 v) ∧ w = w' := by
  have HX : Box (s.size ≤ maxLen) := box (by unfold maxLen; omega)
  obtain ⟨q, hq⟩ : ∃ q, numT (numL s.data.toList) = .tuple #[.int .i64 v, .bool q] := ⟨_, by unfold numT; rw [hv.out]⟩
  have HQ := box hq
  clear hq hs
  go_enter Tryd.func16, Tryd.ntmps16
  go_wp2_with fail
  refine (Number_any _ _ HX.out).mono ?_; rintro e w1 ⟨rfl, rfl⟩; rw [HQ.out]
  go_wp2
  go_ret
  exact ⟨rfl, rfl⟩
theorem mMonth_any (s : ByteArray) (w : World) (hW : Tabs w) :
    Calls Tryd.prog 17 #[.string s] w fun e w' => e = .returned (.int .i64 (monI s.data.toList : Nat)) ∧ w = w' := by
  have HT := box hW
  clear hW
  go_enter Tryd.func17, Tryd.ntmps17
  go_wp2
  go_loop [3, 4] (fun _ i => ∃ k : Nat, k ≤ 12 ∧ i = .int .i64 k ∧ Box (∀ j, j < k → s.data.toList ≠ monL (j + 1))) (fun _ i => 12 - (intOf i).toNat)
  case atStart => exact ⟨0, by omega, rfl, box (fun j h => absurd h (by omega))⟩
  case round =>
    obtain ⟨k, k1, rfl, HK⟩ := hrel
    by_cases h : k < 12
    · have hk0 : (0 : Int) ≤ (k : Int) := by omega
      have hk1 : (k : Int) < 12 := by omega
      have hc := HT.out.mo k h
      by_cases e : s.data.toList = monL (k + 1)
      · have he : ((bs (monL (k + 1))).toList == s.toList) = true := by rw [toList_bs, toList_data, beq_iff_eq]; exact e.symm
        have HV : Box (monI s.data.toList = k + 1) := box (by rw [e]; exact mon_back (by omega) (by omega))
        clear e
        go_wp2
        go_ret
        exact ⟨by rw [HV.out]; simp only [Int.natCast_add]; rfl, rfl⟩
      · have he : ((bs (monL (k + 1))).toList == s.toList) = false := by rw [toList_bs, toList_data, beq_eq_false_iff_ne]; exact fun q => e q.symm
        have HN : Box (∀ j, j < k + 1 → s.data.toList ≠ monL (j + 1)) := box (fun j hj => by
          by_cases q : j = k
          · subst q; exact e
          · exact HK.out j (by omega))
        clear e
        go_wp2
        go_round
        case rel => exact ⟨k + 1, by omega, by go_num, HN⟩
        case measure => simp [intOf]; omega
    · have hk1 : ¬ (k : Int) < 12 := by omega
      have HV : Box (monI s.data.toList = 0) := box (by
        rcases mon_cases s.data.toList with ⟨m, m1, m2, m3, _⟩ | ⟨_, h4⟩
        · exfalso
          have := HK.out (m - 1) (by omega)
          rw [show m - 1 + 1 = m from by omega] at this
          exact this m3
        · exact h4)
      go_wp2
      go_ret
      exact ⟨by rw [HV.out]; rfl, rfl⟩
theorem Dec20_is {n : Int} {x : ByteArray} {w : World} (h1 : InI64 n) (h : Box (bs (decL n) = x)) :
    Calls Tryd.prog 21 #[.int .i64 n] w fun e w' => e = .returned (.string x) ∧ Below w.heap.size w w' :=
  (Decimal_any n w h1).mono fun e w' ⟨h1, h2⟩ => ⟨by rw [h1, ← h.out]; rfl, h2⟩
theorem mTwo_any (n : Nat) (w : World) (h : n < 100) :
    Calls Tryd.prog 20 #[.int .i64 n] w fun e w' => e = .returned (.string (bs (twoL n))) ∧ Below w.heap.size w w' := by
  obtain ⟨a, ha⟩ : ∃ a, n / 10 = a := ⟨_, rfl⟩
  obtain ⟨b, hb⟩ : ∃ b, n % 10 = b := ⟨_, rfl⟩
  have h1 : (n : Int) / 10 = (a : Int) := by omega
  have h2 : (n : Int) % 10 = (b : Int) := by omega
  have HA : Box (bs (decL (a : Int)) = bs [digB a]) := box (by rw [dec_one (by omega)])
  have HB : Box (bs (decL (b : Int)) = bs [digB b]) := box (by rw [dec_one (by omega)])
  have HV : Box (bs (twoL n) = bs [digB a, digB b]) := box (by unfold twoL; rw [ha, digB_mod n b (by omega)])
  have r1 : ∀ w, (Op.stringOp .add (bs [digB a]) (bs [digB b])).run Tryd.prog w = .ok (.string (bs [digB a, digB b])) w := add20 (box rfl) (by show 2 ≤ 1000; omega)
  have a1 : a < 10 := by omega
  have b1 : b < 10 := by omega
  clear ha hb
  go_enter Tryd.func20, Tryd.ntmps20
  go_wp2_with fail
  refine (Dec20_is ⟨by omega, by omega⟩ HA).mono ?_; rintro e w1 ⟨rfl, hb1⟩
  have B1 := box hb1
  clear hb1
  go_wp2_with fail
  refine (Dec20_is ⟨by omega, by omega⟩ HB).mono ?_; rintro e w2 ⟨rfl, hb2⟩
  have B2 := box (B1.out.trans (hb2.mono B1.out.size))
  clear hb2
  go_wp2
  go_ret
  exact ⟨by rw [HV.out]; rfl, B2.out⟩
theorem mClock_any (s : Nat) (w : World) (h : s < 86400) :
    Calls Tryd.prog 22 #[.int .i64 s] w fun e w' => e = .returned (.string (bs (clkL s))) ∧ Below w.heap.size w w' := by
  obtain ⟨H, hH⟩ : ∃ H, s / 3600 = H := ⟨_, rfl⟩
  obtain ⟨M, hM⟩ : ∃ M, s / 60 % 60 = M := ⟨_, rfl⟩
  obtain ⟨S, hS⟩ : ∃ S, s % 60 = S := ⟨_, rfl⟩
  have h1 : (s : Int) / 3600 = (H : Int) := by omega
  have h2 : (s : Int) % 3600 / 60 = (M : Int) := by omega
  have h3 : (s : Int) % 60 = (S : Int) := by omega
  have l1 : H < 100 := by omega
  have l2 : M < 100 := by omega
  have l3 : S < 100 := by omega
  have HV : Box (bs (clkL s) = bs (twoL H ++ [58] ++ twoL M ++ [58] ++ twoL S)) := box (by unfold clkL; rw [hH, hM, hS])
  have r1 : ∀ w, (Op.stringOp .add (bs (twoL H)) ⟨#[58]⟩).run Tryd.prog w = .ok (.string (bs (twoL H ++ [58]))) w := add20 (box rfl) (by show 3 ≤ 1000; omega)
  have r2 : ∀ w, (Op.stringOp .add (bs (twoL H ++ [58])) (bs (twoL M))).run Tryd.prog w = .ok (.string (bs (twoL H ++ [58] ++ twoL M))) w := add20 (box rfl) (by show 5 ≤ 1000; omega)
  have r3 : ∀ w, (Op.stringOp .add (bs (twoL H ++ [58] ++ twoL M)) ⟨#[58]⟩).run Tryd.prog w = .ok (.string (bs (twoL H ++ [58] ++ twoL M ++ [58]))) w := add20 (box rfl) (by show 6 ≤ 1000; omega)
  have r4 : ∀ w, (Op.stringOp .add (bs (twoL H ++ [58] ++ twoL M ++ [58])) (bs (twoL S))).run Tryd.prog w = .ok (.string (bs (twoL H ++ [58] ++ twoL M ++ [58] ++ twoL S))) w := add20 (box rfl) (by show 8 ≤ 1000; omega)
  clear hH hM hS
  go_enter Tryd.func22, Tryd.ntmps22
  go_wp2_with fail
  refine (mTwo_any H _ l1).mono ?_; rintro e w1 ⟨rfl, hb1⟩
  have B1 := box hb1
  clear hb1
  go_wp2_with fail
  refine (mTwo_any M _ l2).mono ?_; rintro e w2 ⟨rfl, hb2⟩
  have B2 := box (B1.out.trans (hb2.mono B1.out.size))
  clear hb2
  go_wp2_with fail
  refine (mTwo_any S _ l3).mono ?_; rintro e w3 ⟨rfl, hb3⟩
  have B3 := box (B2.out.trans (hb3.mono B2.out.size))
  clear hb3
  go_wp2
  go_ret
  exact ⟨by rw [HV.out]; rfl, B3.out⟩

end Go.Proofs.YtdebhlbbcfcmlaaDoor.Asc
