/- The contracts of what reads a target and a version, the program's and the reference's. -/
import Derived.Test.YthfhoacflkbhhaaStaCut
import Derived.Test.YthfhoacflkbhhaaAscNum
set_option linter.unusedVariables false
set_option linter.unusedSimpArgs false
namespace Go.Proofs.Ythfhoacflkbhhaa.Asc
open Go.RowKit

theorem c_bd (c : UInt8) : (0 : Int) ≤ (c.toNat : Int) ∧ (c.toNat : Int) ≤ 255 := by have := c.toNat_lt; omega
theorem rDigit_c (c : UInt8) (w : World) :
    Calls Try.prog 50 #[.int .u8 (c.toNat : Int)] w fun e w' => e = .returned (.bool (digitI (c.toNat : Int))) ∧ w = w' := rDigit_any _ w (c_bd c).1 (c_bd c).2

theorem visL_not {s : ByteArray} {k : Nat} (hk : k < s.size) (hp : visI (s[k].toNat) = false) : visL s.data.toList = false := by
  simp [visL, all_not hk hp]
theorem visL_end {s : ByteArray} {k : Nat} (h : allI visI (s.data.toList.take k) = true) (hk : s.size ≤ k) : visL s.data.toList = !s.toList.isEmpty := by
  rw [ByteArray.toList_eq]; simp [visL, all_end h hk]

/-- isVerL by places -/
theorem isVer_at (s : ByteArray) (h : 7 < s.size) : isVerL s.data.toList = (decide (s.size = 8) && ((s.extract 0 5).toList == [72, 84, 84, 80, 47]) && digitI (s[5].toNat) && ((s[6].toNat : Int) == 46) && digitI (s[7].toNat)) := by
  have hz : s.data.toList.length = s.size := by simp
  unfold isVerL
  rw [getD_at s 5 (by omega), getD_at s 6 (by omega), getD_at s 7 (by omega), ext_bs, toList_bs, List.drop_zero, hz]
  rfl
theorem isVer_size {s : ByteArray} (h : ¬ s.size = 8) : isVerL s.data.toList = false := by
  have hz : s.data.toList.length = s.size := by simp
  unfold isVerL; rw [hz, decide_eq_false h]; rfl

def verV (l : List UInt8) : Value := .tuple #[.int .i64 (verM l), .int .i64 (verE l)]
theorem verV_a {l : List UInt8} (h : isVerL l = false) : verV l = .tuple #[.int .i64 0, .int .i64 1] := by
  have h1 : l ≠ ver11 := by rintro rfl; cases h
  unfold verV; rw [verE_no h, verM_other h1]
theorem verV_b {l : List UInt8} (h : l = ver10) : verV l = .tuple #[.int .i64 0, .int .i64 0] := by
  subst h; unfold verV; rw [verE_10, verM_10]
theorem verV_c {l : List UInt8} (h : l = ver11) : verV l = .tuple #[.int .i64 1, .int .i64 0] := by
  subst h; unfold verV; rw [verE_11, verM_11]
theorem verV_d {l : List UInt8} (h : isVerL l = true) (h0 : l ≠ ver10) (h1 : l ≠ ver11) : verV l = .tuple #[.int .i64 0, .int .i64 3] := by
  unfold verV; rw [verE_other h h0 h1, verM_other h1]
theorem ne_of_beq {a b : List UInt8} (h : (a == b) = false) : a ≠ b := by rintro rfl; simp at h
theorem ret_ver {l : List UInt8} {v : Value} (h : verV l = v) : Ending.returned v = .returned (verV l) := by rw [h]

theorem ver_ab {s : ByteArray} (h7 : 7 < s.size) (hv : isVerL s.data.toList = true) : s.data.toList = ([72, 84, 84, 80, 47, s[5]'(by omega), 46, s[7]] : List UInt8) := by
  obtain ⟨a, b, h, _, _⟩ := isVer_ex hv
  have h5 := getD_at s 5 (by omega)
  have h8 := getD_at s 7 (by omega)
  rw [h] at h5 h8
  rw [h, ← h5, ← h8]; rfl
theorem ver_5 {s : ByteArray} (h7 : 7 < s.size) (hv : isVerL s.data.toList = true) (h : ¬ (s[5].toNat : Int) = 49) : verV s.data.toList = .tuple #[.int .i64 0, .int .i64 3] := by
  have e := ver_ab h7 hv
  have hn : s[5] ≠ 49 := by intro hh; rw [hh] at h; exact h rfl
  refine verV_d hv ?_ ?_ <;> (rw [e]; simp [ver10, ver11, hn])
theorem ver_7 {s : ByteArray} (h7 : 7 < s.size) (hv : isVerL s.data.toList = true) (h : 49 < (s[7].toNat : Int)) : verV s.data.toList = .tuple #[.int .i64 0, .int .i64 3] := by
  have e := ver_ab h7 hv
  have hn : s[7] ≠ 48 := by intro hh; rw [hh] at h; revert h; decide
  have hn2 : s[7] ≠ 49 := by intro hh; rw [hh] at h; revert h; decide
  refine verV_d hv ?_ ?_ <;> (rw [e]; simp [ver10, ver11, hn, hn2])
theorem ver_57 {s : ByteArray} (h7 : 7 < s.size) (hv : isVerL s.data.toList = true) (h : (s[5].toNat : Int) = 49) (h2 : (s[7].toNat : Int) ≤ 49) :
    verV s.data.toList = .tuple #[.int .i64 ((s[7].toNat : Int) - 48), .int .i64 0] ∧ 48 ≤ (s[7].toNat : Int) := by
  have e := ver_ab h7 hv
  obtain ⟨a, b, hl, _, hb⟩ := isVer_ex hv
  have h8 := getD_at s 7 (by omega)
  rw [hl] at h8
  have h8' : b = s[7] := h8
  subst h8'
  simp [digitI] at hb
  have e5 : s[5] = 49 := UInt8.toNat_inj.mp (by show _ = 49; omega)
  have : s[7].toNat = 48 ∨ s[7].toNat = 49 := by omega
  rcases this with q | q
  · have e7 : s[7] = 48 := UInt8.toNat_inj.mp (by show _ = 48; omega)
    exact ⟨by rw [verV_b (by rw [e, e5, e7]; rfl), e7]; rfl, by omega⟩
  · have e7 : s[7] = 49 := UInt8.toNat_inj.mp (by show _ = 49; omega)
    exact ⟨by rw [verV_c (by rw [e, e5, e7]; rfl), e7]; rfl, by omega⟩

end Go.Proofs.Ythfhoacflkbhhaa.Asc
