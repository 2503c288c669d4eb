/- The contract of the reference's parser of status lines. -/
import Derived.Test.YtcpmacmcfedaaaaStaRef
set_option linter.unusedVariables false
set_option linter.unusedSimpArgs false
namespace Go.Proofs.Ytcpmacmcfedaaaa.Asc
open Go.RowKit

theorem refS_at (s : ByteArray) (h : 12 < s.size) : refS s.data.toList = ((((s[8].toNat : Int) == 32) && decide ((49 : Int) ≤ (s[9].toNat : Int)) && decide ((s[9].toNat : Int) ≤ 53) && digitI s[10].toNat && digitI s[11].toNat && ((s[12].toNat : Int) == 32) && textL (s.data.toList.drop 13))) := by
  have hz := len_of s
  unfold refS
  rw [getD_at s 8 (by omega), getD_at s 9 (by omega), getD_at s 10 (by omega), getD_at s 11 (by omega), getD_at s 12 (by omega), hz, decide_eq_true (by omega : 13 ≤ s.size), Bool.true_and]
theorem refS_short {s : ByteArray} (h : s.size < 13) : refS s.data.toList = false := by
  have hz := len_of s
  unfold refS; rw [hz, decide_eq_false (by omega)]; rfl

set_option maxHeartbeats 400000 in
theorem rPS_no (s : ByteArray) (w : World) (HL : Hid (¬ 2000 < s.data.toList.length)) (hle : s.size ≤ 2000) (g8 : 8 < s.size) (g9 : 9 < s.size) (g10 : 10 < s.size) (g11 : 11 < s.size) (g12 : 12 < s.size) (g13 : 13 ≤ s.size)
    (Z1 : Box ((s.extract 13 s.size).size ≤ maxLen)) (Z2 : Box ((s.extract 0 8).size ≤ maxLen)) (Z3 : Box ((s.extract 9 12).size ≤ maxLen))
    (X1 : Box (s.extract 13 s.size = bs (s.data.toList.drop 13))) (X2 : Box ((s.extract 0 8).data.toList = s.data.toList.take 8)) (X3 : Box ((s.extract 9 12).data.toList = (s.data.toList.take 12).drop 9))
    (HR : Box (refS s.data.toList = ((((s[8].toNat : Int) == 32) && decide ((49 : Int) ≤ (s[9].toNat : Int)) && decide ((s[9].toNat : Int) ≤ 53) && digitI s[10].toNat && digitI s[11].toNat && ((s[12].toNat : Int) == 32) && textL (s.data.toList.drop 13))))) (HT : Box (textL (s.data.toList.drop 13) = false)) : Calls Try.prog 12 #[.string s] w fun e w' => e = .returned (staV (staL s.data.toList)) ∧ Below w.heap.size w w' := by
  go_enter Try.func12, Try.ntmps12
  go_wp2_with (first | (go_at_call 27; refine (rDigit_c _ _).mono ?_; rintro e w' ⟨rfl, rfl⟩) | (go_at_call 28; refine (rText_any _ _ Z1.out).mono ?_; rintro e w' ⟨rfl, rfl⟩; rw [X1.out, bs_toList, HT.out]))
  all_goals
    ((try simp only [Exit.inBlock, Exit.then]); refine bodyPost_ret (results_tmp4 rfl _ _ _) rfl ?_)
    exact ⟨ret_sta (sta_ref_no HL.out (by rw [HR.out, HT.out]; simp)), Below.refl _ _⟩

set_option maxHeartbeats 1000000 in
theorem rPS_yes (s : ByteArray) (w : World) (HL : Hid (¬ 2000 < s.data.toList.length)) (hle : s.size ≤ 2000) (g8 : 8 < s.size) (g9 : 9 < s.size) (g10 : 10 < s.size) (g11 : 11 < s.size) (g12 : 12 < s.size) (g13 : 13 ≤ s.size)
    (Z1 : Box ((s.extract 13 s.size).size ≤ maxLen)) (Z2 : Box ((s.extract 0 8).size ≤ maxLen)) (Z3 : Box ((s.extract 9 12).size ≤ maxLen))
    (X1 : Box (s.extract 13 s.size = bs (s.data.toList.drop 13))) (X2 : Box ((s.extract 0 8).data.toList = s.data.toList.take 8)) (X3 : Box ((s.extract 9 12).data.toList = (s.data.toList.take 12).drop 9))
    (HR : Box (refS s.data.toList = ((((s[8].toNat : Int) == 32) && decide ((49 : Int) ≤ (s[9].toNat : Int)) && decide ((s[9].toNat : Int) ≤ 53) && digitI s[10].toNat && digitI s[11].toNat && ((s[12].toNat : Int) == 32) && textL (s.data.toList.drop 13))))) (HT : Box (textL (s.data.toList.drop 13) = true)) : Calls Try.prog 12 #[.string s] w fun e w' => e = .returned (staV (staL s.data.toList)) ∧ Below w.heap.size w w' := by
  go_enter Try.func12, Try.ntmps12
  go_wp2_with (first | (go_at_call 27; refine (rDigit_c _ _).mono ?_; rintro e w' ⟨rfl, rfl⟩) | (go_at_call 28; refine (rText_any _ _ Z1.out).mono ?_; rintro e w' ⟨rfl, rfl⟩; rw [X1.out, bs_toList, HT.out]))
  · have hr : refS s.data.toList = true := by rw [HR.out, HT.out]; simp [*]
    have HRR := box hr
    obtain ⟨n, hn⟩ := refS_num hr
    have HN := box hn
    clear hr hn
    refine (rversion_any _ _ Z2.out).mono ?_; rintro e w1 ⟨rfl, rfl⟩; rw [X2.out]; unfold verV
    by_cases hE : verE (s.data.toList.take 8) = 0
    · have HE := box hE
      clear hE
      rw [HE.out]
      go_wp2_with fail
      refine (rNumber_any _ _ Z3.out).mono ?_; rintro e w1 ⟨rfl, rfl⟩; rw [X3.out, HN.out, show numT (some n) = .tuple #[.int .i64 n, .bool true] from rfl]
      go_wp2
      go_quiet (fail)
      go_wp2
      ((try simp only [Exit.inBlock, Exit.then]); refine bodyPost_ret (results_tmp4 rfl _ _ _) rfl ?_)
      refine ⟨?_, below_drewN _ _⟩
      rw [sta_ref_ok HL.out HRR.out HE.out, HN.out]
      show Ending.returned (.tuple #[.int .i64 (verM (s.data.toList.take 8)), .int .i64 n, .string (s.extract 13 s.size), .int .i64 0]) = _
      rw [X1.out]; rfl
    · have HE := box hE
      have hE2 := bne0 hE
      clear hE
      go_wp2
      ((try simp only [Exit.inBlock, Exit.then]); refine bodyPost_ret (results_tmp4 rfl _ _ _) rfl ?_)
      exact ⟨ret_sta (sta_ref_ver HL.out HRR.out HE.out), Below.refl _ _⟩
  all_goals
    ((try simp only [Exit.inBlock, Exit.then]); refine bodyPost_ret (results_tmp4 rfl _ _ _) rfl ?_)
    exact ⟨ret_sta (sta_ref_no HL.out (by rw [HR.out, HT.out]; simp [*] <;> omega)), Below.refl _ _⟩

theorem rParseStatus_any (s : ByteArray) (w : World) (hs : s.size ≤ maxLen) : Calls Try.prog 12 #[.string s] w fun e w' => e = .returned (staV (staL s.data.toList)) ∧ Below w.heap.size w w' := by
  by_cases hl : 2000 < s.size
  · unfold maxLen at hs
    go_enter Try.func12, Try.ntmps12
    go_wp2
    ((try simp only [Exit.inBlock, Exit.then]); refine bodyPost_ret (results_tmp4 rfl _ _ _) rfl ?_)
    exact ⟨ret_sta (sta_long (long_of hl)), Below.refl _ _⟩
  · have HS := Lib.hid hs
    have HL := Lib.hid (nlong_of hl)
    have hle : s.size ≤ 2000 := by omega
    clear hs
    by_cases h13 : s.size < 13
    · have HR := Lib.hid (refS_short h13)
      go_enter Try.func12, Try.ntmps12
      go_wp2
      ((try simp only [Exit.inBlock, Exit.then]); refine bodyPost_ret (results_tmp4 rfl _ _ _) rfl ?_)
      exact ⟨ret_sta (sta_ref_no HL.out HR.out), Below.refl _ _⟩
    · have g8 : 8 < s.size := by omega
      have g9 : 9 < s.size := by omega
      have g10 : 10 < s.size := by omega
      have g11 : 11 < s.size := by omega
      have g12 : 12 < s.size := by omega
      have g13 : 13 ≤ s.size := by omega
      have Z1 : Box ((s.extract 13 s.size).size ≤ maxLen) := box (by have := HS.out; rw [ByteArray.size_extract]; omega)
      have Z2 : Box ((s.extract 0 8).size ≤ maxLen) := box (by have := HS.out; rw [ByteArray.size_extract]; omega)
      have Z3 : Box ((s.extract 9 12).size ≤ maxLen) := box (by have := HS.out; rw [ByteArray.size_extract]; omega)
      have X2 : Box ((s.extract 0 8).data.toList = s.data.toList.take 8) := box (by rw [ext_bs, bs_toList, List.drop_zero])
      have X3 : Box ((s.extract 9 12).data.toList = (s.data.toList.take 12).drop 9) := box (by rw [ext_bs, bs_toList])
      have X1 : Box ((s.extract 13 s.size) = bs (s.data.toList.drop 13)) := box (by rw [ext_bs, List.take_of_length_le (by rw [len_of]; omega)])
      rcases hT : textL (s.data.toList.drop 13) with _ | _
      · exact rPS_no s w HL hle g8 g9 g10 g11 g12 g13 Z1 Z2 Z3 X1 X2 X3 (box (refS_at s g12)) (box hT)
      · exact rPS_yes s w HL hle g8 g9 g10 g11 g12 g13 Z1 Z2 Z3 X1 X2 X3 (box (refS_at s g12)) (box hT)

end Go.Proofs.Ytcpmacmcfedaaaa.Asc
