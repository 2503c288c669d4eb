/- The contracts of what reads a target and a version, the program's and the reference's. -/
import Derived.Test.YtcpmacmcfedaaaaStaCut
import Derived.Test.YtcpmacmcfedaaaaAscNum
set_option linter.unusedVariables false
set_option linter.unusedSimpArgs false
namespace Go.Proofs.Ytcpmacmcfedaaaa.Asc
open Go.RowKit

theorem sDigit_any (b : Int) (w : World) (h0 : 0 ≤ b) (h1 : b ≤ 255) :
    Calls Try.prog 43 #[.int .u8 b] w fun e w' => e = .returned (.bool (digitI b)) ∧ w = w' := by
  go_enter Try.func43, Try.ntmps43
  go_wp2
  all_goals (go_ret; exact ⟨ret_bool (by rw [Bool.eq_iff_iff]; simp [digitI]; omega), rfl⟩)

theorem c_bd (c : UInt8) : (0 : Int) ≤ (c.toNat : Int) ∧ (c.toNat : Int) ≤ 255 := by have := c.toNat_lt; omega
theorem sDigit_c (c : UInt8) (w : World) :
    Calls Try.prog 43 #[.int .u8 (c.toNat : Int)] w fun e w' => e = .returned (.bool (digitI (c.toNat : Int))) ∧ w = w' := sDigit_any _ w (c_bd c).1 (c_bd c).2
theorem rDigit_c (c : UInt8) (w : World) :
    Calls Try.prog 27 #[.int .u8 (c.toNat : Int)] w fun e w' => e = .returned (.bool (digitI (c.toNat : Int))) ∧ w = w' := rDigit_any _ w (c_bd c).1 (c_bd c).2

theorem visL_not {s : ByteArray} {k : Nat} (hk : k < s.size) (hp : visI (s[k].toNat) = false) : visL s.data.toList = false := by
  simp [visL, all_not hk hp]
theorem visL_end {s : ByteArray} {k : Nat} (h : allI visI (s.data.toList.take k) = true) (hk : s.size ≤ k) : visL s.data.toList = !s.toList.isEmpty := by
  rw [ByteArray.toList_eq]; simp [visL, all_end h hk]

theorem isTarget_any (s : ByteArray) (w : World) (hs : s.size ≤ maxLen) :
    Calls Try.prog 19 #[.string s] w fun e w' => e = .returned (.bool (visL s.data.toList)) ∧ w = w' := by
  unfold maxLen at hs
  go_enter Try.func19, Try.ntmps19
  go_wp2
  go_loop [6] (fun i => ∃ k : Nat, k ≤ s.size ∧ i = .int .i64 k ∧ allI visI (s.data.toList.take k) = true) (fun i => s.size - (intOf i).toNat)
  case atStart => exact ⟨0, Nat.zero_le _, rfl, rfl⟩
  case round =>
    obtain ⟨k, hk, rfl, hall⟩ := hrel
    by_cases hlt : k < s.size
    · have hb := byte_bd s k hlt
      rcases hp : visI (s[k].toNat) with _ | _
      · have HP := Lib.hid hp
        have hq : ¬ (33 ≤ (s[k].toNat : Int) ∧ (s[k].toNat : Int) ≤ 126) := by simpa [visI] using hp
        have HA := Lib.hid hall
        clear hp hall
        by_cases h33 : (s[k].toNat : Int) < 33
        · clear hq
          go_wp2
          go_ret
          exact ⟨ret_bool (visL_not hlt HP.out).symm, rfl⟩
        · have h126 : 126 < (s[k].toNat : Int) := by omega
          clear hq
          go_wp2
          go_ret
          exact ⟨ret_bool (visL_not hlt HP.out).symm, rfl⟩
      · have hq : 33 ≤ (s[k].toNat : Int) ∧ (s[k].toNat : Int) ≤ 126 := by simpa [visI] using hp
        have HA := Lib.hid (all_more hall hlt hp)
        obtain ⟨q1, q2⟩ := hq
        clear hp hall
        go_wp2
        go_round
        case rel => exact ⟨k + 1, by omega, by go_num, HA.out⟩
        case measure => simp [intOf]; omega
    · go_wp2
      go_ret
      exact ⟨ret_bool (by rw [visL_end hall (by omega)]), rfl⟩

theorem rVisible_any (s : ByteArray) (w : World) (hs : s.size ≤ maxLen) :
    Calls Try.prog 23 #[.string s] w fun e w' => e = .returned (.bool (visL s.data.toList)) ∧ w = w' := by
  unfold maxLen at hs
  go_enter Try.func23, Try.ntmps23
  go_wp2
  go_loop [3] (fun i => ∃ k : Nat, k ≤ s.size ∧ i = .int .i64 k ∧ allI visI (s.data.toList.take k) = true) (fun i => s.size - (intOf i).toNat)
  case atStart => exact ⟨0, Nat.zero_le _, rfl, rfl⟩
  case round =>
    obtain ⟨k, hk, rfl, hall⟩ := hrel
    by_cases hlt : k < s.size
    · have hb := byte_bd s k hlt
      rcases hp : visI (s[k].toNat) with _ | _
      · have HP := Lib.hid hp
        have hq : ¬ (33 ≤ (s[k].toNat : Int) ∧ (s[k].toNat : Int) ≤ 126) := by simpa [visI] using hp
        have HA := Lib.hid hall
        clear hp hall
        by_cases h33 : (s[k].toNat : Int) < 33
        · clear hq
          go_wp2
          go_ret
          exact ⟨ret_bool (visL_not hlt HP.out).symm, rfl⟩
        · have h126 : 126 < (s[k].toNat : Int) := by omega
          clear hq
          go_wp2
          go_ret
          exact ⟨ret_bool (visL_not hlt HP.out).symm, rfl⟩
      · have hq : 33 ≤ (s[k].toNat : Int) ∧ (s[k].toNat : Int) ≤ 126 := by simpa [visI] using hp
        have HA := Lib.hid (all_more hall hlt hp)
        obtain ⟨q1, q2⟩ := hq
        clear hp hall
        go_wp2
        go_round
        case rel => exact ⟨k + 1, by omega, by go_num, HA.out⟩
        case measure => simp [intOf]; omega
    · go_wp2
      go_ret
      exact ⟨ret_bool (by rw [visL_end hall (by omega)]), rfl⟩

/-- isVerL by places -/
theorem isVer_at (s : ByteArray) (h : 7 < s.size) : isVerL s.data.toList = (decide (s.size = 8) && ((s.extract 0 5).toList == [72, 84, 84, 80, 47]) && digitI (s[5].toNat) && ((s[6].toNat : Int) == 46) && digitI (s[7].toNat)) := by
  have hz : s.data.toList.length = s.size := by simp
  unfold isVerL
  rw [getD_at s 5 (by omega), getD_at s 6 (by omega), getD_at s 7 (by omega), ext_bs, toList_bs, List.drop_zero, hz]
  rfl
theorem isVer_size {s : ByteArray} (h : ¬ s.size = 8) : isVerL s.data.toList = false := by
  have hz : s.data.toList.length = s.size := by simp
  unfold isVerL; rw [hz, decide_eq_false h]; rfl

theorem isVersion_any (s : ByteArray) (w : World) (hs : s.size ≤ maxLen) :
    Calls Try.prog 35 #[.string s] w fun e w' => e = .returned (.bool (isVerL s.data.toList)) ∧ w = w' := by
  unfold maxLen at hs
  by_cases hz : s.size = 8
  · have h5 : 5 < s.size := by omega
    have h6 : 6 < s.size := by omega
    have h7 : 7 < s.size := by omega
    have b5 := byte_bd s 5 h5
    have b7 := byte_bd s 7 h7
    have HV := Lib.hid (isVer_at s h7)
    have HZ := Lib.hid hz
    have hb : ((s.size : Int) == 8) = true := by simp [hz]
    clear hz
    go_enter Try.func35, Try.ntmps35
    go_wp2_with (go_at_call 43; refine (sDigit_c _ _).mono ?_; rintro e w' ⟨rfl, rfl⟩)
    all_goals (go_ret; exact ⟨ret_bool (by rw [HV.out]; simp [HZ.out, *]), rfl⟩)
  · have hb : ((s.size : Int) == 8) = false := by simpa using fun h => hz (by omega)
    have HV := Lib.hid (isVer_size hz)
    clear hz
    go_enter Try.func35, Try.ntmps35
    go_wp2
    go_ret
    exact ⟨ret_bool (by rw [HV.out]), rfl⟩

def verV (l : List UInt8) : Value := .tuple #[.int .i64 (verM l), .int .i64 (verE l)]
theorem verV_a {l : List UInt8} (h : isVerL l = false) : verV l = .tuple #[.int .i64 0, .int .i64 1] := by
  have h1 : l ≠ ver11 := by rintro rfl; cases h
  unfold verV; rw [verE_no h, verM_other h1]
theorem verV_b {l : List UInt8} (h : l = ver10) : verV l = .tuple #[.int .i64 0, .int .i64 0] := by
  subst h; unfold verV; rw [verE_10, verM_10]
theorem verV_c {l : List UInt8} (h : l = ver11) : verV l = .tuple #[.int .i64 1, .int .i64 0] := by
  subst h; unfold verV; rw [verE_11, verM_11]
theorem verV_d {l : List UInt8} (h : isVerL l = true) (h0 : l ≠ ver10) (h1 : l ≠ ver11) : verV l = .tuple #[.int .i64 0, .int .i64 3] := by
  unfold verV; rw [verE_other h h0 h1, verM_other h1]
theorem ne_of_beq {a b : List UInt8} (h : (a == b) = false) : a ≠ b := by rintro rfl; simp at h
theorem ret_ver {l : List UInt8} {v : Value} (h : verV l = v) : Ending.returned v = .returned (verV l) := by rw [h]

theorem parseVersion_any (s : ByteArray) (w : World) (hs : s.size ≤ maxLen) :
    Calls Try.prog 20 #[.string s] w fun e w' => e = .returned (verV s.data.toList) ∧ w = w' := by
  have HS := Lib.hid hs
  clear hs
  rcases hv : isVerL s.data.toList with _ | _
  · have HV := Lib.hid hv
    go_enter Try.func20, Try.ntmps20
    go_wp2_with fail
    refine (isVersion_any _ _ HS.out).mono ?_; rintro e w1 ⟨rfl, rfl⟩
    go_wp2
    go_ret2
    exact ⟨ret_ver (verV_a HV.out), rfl⟩
  · have HV := Lib.hid hv
    go_enter Try.func20, Try.ntmps20
    go_wp2_with fail
    refine (isVersion_any _ _ HS.out).mono ?_; rintro e w1 ⟨rfl, rfl⟩
    go_wp2
    · have h : (s.toList == [72, 84, 84, 80, 47, 49, 46, 48]) = true := by assumption
      go_ret2
      exact ⟨ret_ver (verV_b (by rw [← toList_data]; exact eq_of_beq h)), rfl⟩
    · have h : (s.toList == [72, 84, 84, 80, 47, 49, 46, 49]) = true := by assumption
      go_ret2
      exact ⟨ret_ver (verV_c (by rw [← toList_data]; exact eq_of_beq h)), rfl⟩
    · have h0 : (s.toList == [72, 84, 84, 80, 47, 49, 46, 48]) = false := by assumption
      have h1 : (s.toList == [72, 84, 84, 80, 47, 49, 46, 49]) = false := by assumption
      go_ret2
      exact ⟨ret_ver (verV_d HV.out (by rw [← toList_data]; exact ne_of_beq h0) (by rw [← toList_data]; exact ne_of_beq h1)), rfl⟩

theorem ver_ab {s : ByteArray} (h7 : 7 < s.size) (hv : isVerL s.data.toList = true) : s.data.toList = ([72, 84, 84, 80, 47, s[5]'(by omega), 46, s[7]] : List UInt8) := by
  obtain ⟨a, b, h, _, _⟩ := isVer_ex hv
  have h5 := getD_at s 5 (by omega)
  have h8 := getD_at s 7 (by omega)
  rw [h] at h5 h8
  rw [h, ← h5, ← h8]; rfl
theorem ver_5 {s : ByteArray} (h7 : 7 < s.size) (hv : isVerL s.data.toList = true) (h : ¬ (s[5].toNat : Int) = 49) : verV s.data.toList = .tuple #[.int .i64 0, .int .i64 3] := by
  have e := ver_ab h7 hv
  have hn : s[5] ≠ 49 := by intro hh; rw [hh] at h; exact h rfl
  refine verV_d hv ?_ ?_ <;> (rw [e]; simp [ver10, ver11, hn])
theorem ver_7 {s : ByteArray} (h7 : 7 < s.size) (hv : isVerL s.data.toList = true) (h : 49 < (s[7].toNat : Int)) : verV s.data.toList = .tuple #[.int .i64 0, .int .i64 3] := by
  have e := ver_ab h7 hv
  have hn : s[7] ≠ 48 := by intro hh; rw [hh] at h; revert h; decide
  have hn2 : s[7] ≠ 49 := by intro hh; rw [hh] at h; revert h; decide
  refine verV_d hv ?_ ?_ <;> (rw [e]; simp [ver10, ver11, hn, hn2])
theorem ver_57 {s : ByteArray} (h7 : 7 < s.size) (hv : isVerL s.data.toList = true) (h : (s[5].toNat : Int) = 49) (h2 : (s[7].toNat : Int) ≤ 49) :
    verV s.data.toList = .tuple #[.int .i64 ((s[7].toNat : Int) - 48), .int .i64 0] ∧ 48 ≤ (s[7].toNat : Int) := by
  have e := ver_ab h7 hv
  obtain ⟨a, b, hl, _, hb⟩ := isVer_ex hv
  have h8 := getD_at s 7 (by omega)
  rw [hl] at h8
  have h8' : b = s[7] := h8
  subst h8'
  simp [digitI] at hb
  have e5 : s[5] = 49 := UInt8.toNat_inj.mp (by show _ = 49; omega)
  have : s[7].toNat = 48 ∨ s[7].toNat = 49 := by omega
  rcases this with q | q
  · have e7 : s[7] = 48 := UInt8.toNat_inj.mp (by show _ = 48; omega)
    exact ⟨by rw [verV_b (by rw [e, e5, e7]; rfl), e7]; rfl, by omega⟩
  · have e7 : s[7] = 49 := UInt8.toNat_inj.mp (by show _ = 49; omega)
    exact ⟨by rw [verV_c (by rw [e, e5, e7]; rfl), e7]; rfl, by omega⟩

theorem rversion_any (s : ByteArray) (w : World) (hs : s.size ≤ maxLen) :
    Calls Try.prog 24 #[.string s] w fun e w' => e = .returned (verV s.data.toList) ∧ w = w' := by
  unfold maxLen at hs
  by_cases hz : s.size = 8
  · have h5 : 5 < s.size := by omega
    have h6 : 6 < s.size := by omega
    have h7 : 7 < s.size := by omega
    have b5 := byte_bd s 5 h5
    have b7 := byte_bd s 7 h7
    have HV := Lib.hid (isVer_at s h7)
    have HZ := Lib.hid hz
    have hb : ((s.size : Int) != 8) = false := by simp [hz]
    clear hz
    go_enter Try.func24, Try.ntmps24
    go_wp2_with (go_at_call 27; refine (rDigit_c _ _).mono ?_; rintro e w' ⟨rfl, rfl⟩)
    · have q : (!digitI (s[7].toNat : Int)) = true := by assumption
      go_ret2
      exact ⟨ret_ver (verV_a (by rw [HV.out, Bool.and_eq_false_iff]; right; simpa using q)), rfl⟩
    · have q : (!digitI (s[7].toNat : Int)) = false := by assumption
      have q7 : 49 < (s[7].toNat : Int) := by assumption
      go_ret2
      exact ⟨ret_ver (ver_7 h7 (by simp at q; rw [HV.out]; simp [HZ.out, *] <;> decide) q7), rfl⟩
    · have q : (!digitI (s[7].toNat : Int)) = false := by assumption
      have q5 : (s[5].toNat : Int) = 49 := by assumption
      have q7 : (s[7].toNat : Int) ≤ 49 := by assumption
      have hv : isVerL s.data.toList = true := by simp at q; rw [HV.out]; simp [HZ.out, *] <;> decide
      have h := ver_57 h7 hv q5 q7
      go_ret2
      refine ⟨ret_ver (v := .tuple #[.int .i64 (((s[7].toNat : Int) - 48) % 256), .int .i64 0]) ?_, rfl⟩
      rw [h.1, Int.emod_eq_of_lt (by have := h.2; omega) (by omega)]
    · have q : (!digitI (s[7].toNat : Int)) = false := by assumption
      have q5 : ¬ (s[5].toNat : Int) = 49 := by assumption
      go_ret2
      exact ⟨ret_ver (ver_5 h7 (by simp at q; rw [HV.out]; simp [HZ.out, *] <;> decide) q5), rfl⟩
    all_goals
      go_ret2
      exact ⟨ret_ver (verV_a (by rw [HV.out]; simp [HZ.out, *])), rfl⟩
  · have hb : ((s.size : Int) != 8) = true := by simpa using fun h => hz (by omega)
    have HV := Lib.hid (isVer_size hz)
    clear hz
    go_enter Try.func24, Try.ntmps24
    go_wp2
    go_ret2
    exact ⟨ret_ver (verV_a HV.out), rfl⟩
end Go.Proofs.Ytcpmacmcfedaaaa.Asc
