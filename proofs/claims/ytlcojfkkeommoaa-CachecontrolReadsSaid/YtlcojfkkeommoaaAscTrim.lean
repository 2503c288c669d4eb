/- The contracts of Trim, the program's and the reference's: both return 'trimL' of the string's bytes. -/
import Derived.Test.YtlcojfkkeommoaaAscTok
import Derived.Test.YtlcojfkkeommoaaAscSpec2
import Derived.LoopTactic
import Derived.Lib.Hide
set_option linter.unusedVariables false
set_option linter.unusedSimpArgs false
set_option maxRecDepth 100000
namespace Go.Proofs.Ytlcojfkkeommoaa.Asc
open Go.RowKit

theorem ret_str {a b : ByteArray} (h : a = b) : Ending.returned (.string a) = .returned (.string b) := by rw [h]
theorem str_ext {a : ByteArray} {l : List UInt8} (h : a.data.toList = l) : a = ⟨l.toArray⟩ := by
  subst h; rfl
theorem extract_list (s : ByteArray) (i j : Nat) : (s.extract i j).data.toList = (s.data.toList.take j).drop i := by
  rw [ByteArray.data_extract, Array.toList_extract, List.extract_eq_take_drop, List.drop_take]
theorem blank_at {s : ByteArray} {k : Nat} {b : Bool} (hk : k < s.size) (h : blankB (s.data.toList.getD k 0) = b) : blankI (s[k].toNat) = b := by
  rw [getD_at s k hk] at h; exact h

theorem blank_drop {t : ByteArray} {l : List UInt8} {k : Nat} {b : Bool} (ht : t.data.toList = l.drop k) (h0 : 0 < t.size) (h : blankB (l.getD k 0) = b) : blankI (t[0].toNat) = b := by
  refine blank_at (s := t) (k := 0) h0 ?_
  rw [ht]; rw [← h]; simp [List.getD_eq_getElem?_getD, List.getElem?_drop]
theorem blank_last {t : ByteArray} {l : List UInt8} {k e : Nat} {b : Bool} (ht : t.data.toList = (l.take e).drop k) (hl : t.size - 1 < t.size) (hsz : t.size = e - k) (h : blankB (l.getD (e - 1) 0) = b) : blankI (t[t.size - 1].toNat) = b := by
  refine blank_at (s := t) (k := t.size - 1) hl ?_
  rw [ht, ← h]
  simp only [List.getD_eq_getElem?_getD, List.getElem?_drop]
  rw [List.getElem?_take_of_lt (by omega), show k + (t.size - 1) = e - 1 by omega]
theorem list_size {t : ByteArray} {l : List UInt8} (h : t.data.toList = l) : t.size = l.length := by subst h; simp

set_option maxHeartbeats 800000 in
theorem Trim_any (s : ByteArray) (w : World) (hs : s.size ≤ maxLen) :
    Calls Try.prog 47 #[.string s] w fun e w' => e = .returned (.string ⟨(trimL s.data.toList).toArray⟩) ∧ w = w' := by
  unfold maxLen at hs
  obtain ⟨k0, e0, ht⟩ := ex_trim s.data.toList
  have HR : Hid (s.extract k0 e0 = ⟨(trimL s.data.toList).toArray⟩) := Lib.hid (str_ext (by rw [extract_list, trim_at ht]))
  obtain ⟨h1, h2, h3, h4, h5, h6⟩ := ht
  have hz : s.data.toList.length = s.size := by simp
  rw [hz] at h2
  have H3 := Lib.hid h3
  have H4 := Lib.hid h4
  have H5 := Lib.hid h5
  have H6 := Lib.hid h6
  clear h3 h4 h5 h6 hz
  go_enter Try.func47, Try.ntmps47
  go_wp2
  go_loop [3] (fun i => ∃ k : Nat, k ≤ k0 ∧ i = .int .i64 k) (fun i => s.size - (intOf i).toNat)
  case atStart => exact ⟨0, Nat.zero_le _, rfl⟩
  case round =>
    obtain ⟨k, hk, rfl⟩ := hrel
    by_cases hlt : k < k0
    · have hks : k < s.size := by omega
      have hb := byte_bd s k hks
      have hbl := blank_at hks (H3.out k hlt)
      go_wp2_with (go_at_call 58; refine (isBlank_any _ _).mono ?_; rintro e w' ⟨rfl, rfl⟩)
      go_round
      case rel => exact ⟨k + 1, by omega, by go_num⟩
      case measure => simp [intOf]; omega
    · obtain rfl : k = k0 := by omega
      by_cases hks : k < s.size
      · have hbl := blank_at hks (H5.out (by simpa using hks))
        go_wp2_with (go_at_call 58; refine (isBlank_any _ _).mono ?_; rintro e w' ⟨rfl, rfl⟩)
        go_loop [4] (fun j => ∃ e : Nat, e0 ≤ e ∧ e ≤ s.size ∧ j = .int .i64 e) (fun j => (intOf j).toNat)
        case atStart => exact ⟨s.size, h2, Nat.le_refl _, rfl⟩
        case round =>
          obtain ⟨e, he, hes, rfl⟩ := hrel
          by_cases hle : e0 < e
          · have hq : e - 1 < s.size := by omega
            have hbe := blank_at hq (H4.out (e - 1) (by omega) (by simpa using hq))
            go_wp2_with (go_at_call 58; refine (isBlank_any _ _).mono ?_; rintro e w' ⟨rfl, rfl⟩)
            go_round
            case rel => exact ⟨e - 1, by omega, by omega, by go_num⟩
            case measure => simp [intOf]; omega
          · obtain rfl : e = e0 := by omega
            by_cases hke : k < e
            · have hq : e - 1 < s.size := by omega
              have hbe := blank_at hq (H6.out hke)
              go_wp2_with (go_at_call 58; refine (isBlank_any _ _).mono ?_; rintro e w' ⟨rfl, rfl⟩)
              go_ret
              exact ⟨ret_str HR.out, rfl⟩
            · go_wp2
              go_ret
              exact ⟨ret_str HR.out, rfl⟩
      · go_wp2
        go_loop [4] (fun j => ∃ e : Nat, e0 ≤ e ∧ e ≤ s.size ∧ j = .int .i64 e) (fun j => (intOf j).toNat)
        case atStart => exact ⟨s.size, h2, Nat.le_refl _, rfl⟩
        case round =>
          obtain ⟨e, he, hes, rfl⟩ := hrel
          by_cases hle : e0 < e
          · exfalso; omega
          · obtain rfl : e = e0 := by omega
            by_cases hke : k < e
            · exfalso; omega
            · go_wp2
              go_ret
              exact ⟨ret_str HR.out, rfl⟩

set_option maxHeartbeats 800000 in
theorem rTrim_any (s : ByteArray) (w : World) (hs : s.size ≤ maxLen) :
    Calls Try.prog 30 #[.string s] w fun e w' => e = .returned (.string ⟨(trimL s.data.toList).toArray⟩) ∧ w = w' := by
  unfold maxLen at hs
  obtain ⟨k0, e0, ht⟩ := ex_trim s.data.toList
  have HR := Lib.hid (trim_at ht)
  obtain ⟨h1, h2, h3, h4, h5, h6⟩ := ht
  have hz : s.data.toList.length = s.size := by simp
  rw [hz] at h2
  have H3 := Lib.hid h3
  have H4 := Lib.hid h4
  have H5 := Lib.hid h5
  have H6 := Lib.hid h6
  clear h3 h4 h5 h6 hz
  go_enter Try.func30, Try.ntmps30
  go_wp2
  go_loop [0] (fun i => ∃ (t : ByteArray) (k : Nat), k ≤ k0 ∧ i = .string t ∧ Hid (t.data.toList = s.data.toList.drop k) ∧ Hid (t.size = s.size - k)) (fun i => match i with | .string t => t.size | _ => 0)
  case atStart => exact ⟨s, 0, Nat.zero_le _, rfl, Lib.hid (by simp), Lib.hid (by simp)⟩
  case round =>
    obtain ⟨t, k, hk, rfl, HT, HZ⟩ := hrel
    by_cases hlt : k < k0
    · have h0 : 0 < t.size := by have := HZ.out; omega
      have hle : t.size ≤ s.size := by have := HZ.out; omega
      have hbl := blank_drop HT.out h0 (H3.out k hlt)
      have hb := byte_bd t 0 h0
      go_wp2_with (go_at_call 44; refine (rblank_any _ _).mono ?_; rintro e w' ⟨rfl, rfl⟩)
      go_round
      case rel =>
        have e1 : (t.extract 1 t.size).data.toList = s.data.toList.drop (k + 1) := by
          rw [extract_list, List.take_of_length_le (by simp), HT.out, List.drop_drop]
        exact ⟨_, k + 1, by omega, rfl, Lib.hid e1, Lib.hid (by rw [list_size e1]; simp)⟩
      case measure => simp; omega
    · obtain rfl : k = k0 := by omega
      by_cases hks : k < s.size
      · have h0 : 0 < t.size := by have := HZ.out; omega
        have hle : t.size ≤ s.size := by have := HZ.out; omega
        have hbl := blank_drop HT.out h0 (H5.out (by simpa using hks))
        go_wp2_with (go_at_call 44; refine (rblank_any _ _).mono ?_; rintro e w' ⟨rfl, rfl⟩)
        go_loop [0] (fun i => ∃ (t : ByteArray) (e : Nat), e0 ≤ e ∧ e ≤ s.size ∧ i = .string t ∧ Hid (t.data.toList = (s.data.toList.take e).drop k) ∧ Hid (t.size = e - k)) (fun i => match i with | .string t => t.size | _ => 0)
        case atStart => exact ⟨t, s.size, h2, Nat.le_refl _, rfl, Lib.hid (by rw [List.take_of_length_le (by simp)]; exact HT.out), HZ⟩
        case round =>
          obtain ⟨t, e, he, hes, rfl, HT, HZ⟩ := hrel
          by_cases hle : e0 < e
          · have h0 : 0 < t.size := by have := HZ.out; omega
            have hl : t.size - 1 < t.size := by omega
            have hsz : t.size ≤ s.size := by have := HZ.out; omega
            have hbl := blank_last HT.out hl HZ.out (H4.out (e - 1) (by omega) (by simp; omega))
            have e1 : (t.extract 0 (t.size - 1)).data.toList = (s.data.toList.take (e - 1)).drop k := by
              rw [extract_list, HT.out, List.drop_zero, HZ.out, show e - k - 1 = e - 1 - k by omega, ← List.drop_take, List.take_take, Nat.min_eq_left (by omega)]
            have E1 := Lib.hid e1
            have E2 : Hid ((t.extract 0 (t.size - 1)).size = e - 1 - k) := Lib.hid (by rw [list_size e1]; simp; omega)
            clear e1
            go_wp2_with (go_at_call 44; refine (rblank_any _ _).mono ?_; rintro e w' ⟨rfl, rfl⟩)
            go_round
            case rel => exact ⟨_, e - 1, by omega, by omega, rfl, E1, E2⟩
            case measure => simp; omega
          · obtain rfl : e = e0 := by omega
            have hsz : t.size ≤ s.size := by have := HZ.out; omega
            have HF : Hid (t = ⟨(trimL s.data.toList).toArray⟩) := Lib.hid (str_ext (by rw [HT.out, HR.out]))
            by_cases hke : k < e
            · have h0 : 0 < t.size := by have := HZ.out; omega
              have hl : t.size - 1 < t.size := by omega
              have hbl := blank_last HT.out hl HZ.out (H6.out hke)
              go_wp2_with (go_at_call 44; refine (rblank_any _ _).mono ?_; rintro e w' ⟨rfl, rfl⟩)
              go_ret
              exact ⟨ret_str HF.out, rfl⟩
            · have h0 : t.size = 0 := by have := HZ.out; omega
              go_wp2
              go_ret
              exact ⟨ret_str HF.out, rfl⟩
      · have h0 : t.size = 0 := by have := HZ.out; omega
        go_wp2
        go_loop [0] (fun i => ∃ (t : ByteArray) (e : Nat), e0 ≤ e ∧ e ≤ s.size ∧ i = .string t ∧ Hid (t.data.toList = (s.data.toList.take e).drop k) ∧ Hid (t.size = e - k)) (fun i => match i with | .string t => t.size | _ => 0)
        case atStart => exact ⟨t, s.size, h2, Nat.le_refl _, rfl, Lib.hid (by rw [List.take_of_length_le (by simp)]; exact HT.out), HZ⟩
        case round =>
          obtain ⟨t, e, he, hes, rfl, HT, HZ⟩ := hrel
          by_cases hle : e0 < e
          · exfalso; omega
          · obtain rfl : e = e0 := by omega
            have hsz : t.size ≤ s.size := by have := HZ.out; omega
            have HF : Hid (t = ⟨(trimL s.data.toList).toArray⟩) := Lib.hid (str_ext (by rw [HT.out, HR.out]))
            by_cases hke : k < e
            · exfalso; omega
            · have h0 : t.size = 0 := by have := HZ.out; omega
              go_wp2
              go_ret
              exact ⟨ret_str HF.out, rfl⟩
end Go.Proofs.Ytlcojfkkeommoaa.Asc
