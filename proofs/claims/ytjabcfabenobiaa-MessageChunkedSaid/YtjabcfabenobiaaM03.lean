/- Merged texts: AscLow AscNum AscTrim ChkRef ChkRef2 FieMem FieFmt. -/
import Derived.Test.YtjabcfabenobiaaM01
import Derived.Test.YtjabcfabenobiaaM02
import Derived.Deep.RegionHeld3
import Derived.IntWalk
import Derived.Lib.Hide
import Derived.LoopTactic
set_option linter.unusedVariables false
set_option linter.unusedSimpArgs false
set_option maxRecDepth 100000
namespace Go.Proofs.Ytjabcfabenobiaa.Asc
section
open Go.RowKit
theorem Lower_any (s : ByteArray) (w : World) (hs : s.size ≤ 4294967296) :
    Calls Try.prog 99 #[.string s] w fun e w' => e = .returned (.string ⟨(lowL s.data.toList).toArray⟩) ∧ Below w.heap.size w w' := by
  obtain ⟨i0, hi0, hz0, hz1, hz2⟩ := info_parts info_u8
  have hmk := fun (w : World) => run_make (P := Try.prog) w 57 5 i0 _ Try.underlying57 hi0 hz0 .i64 .i64 s.size s.size (by omega) (by omega) (by rw [hz2]; omega) (by omega)
  simp only [Int.toNat_natCast, hz1, Nat.mul_one] at hmk
  go_enter Try.func99, Try.ntmps99
  go_wp2
  have hr : (List.replicate s.size (0 : UInt8)).length = s.data.toList.length := by simp
  have hB0 : Bys (w.alloc (.cells (madeCells #[.int .u8 0] s.size) 5)) w.heap.size (half (List.replicate s.size (0 : UInt8)) s.data.toList 0) := by
    rw [half_zero]
    refine ⟨by simp, fun j hj => ?_⟩
    rw [List.length_replicate] at hj
    refine ⟨?_, by go_simp⟩
    rw [World.cell?_alloc_at (hn := rfl), ← Array.getElem?_toList, toList_madeCells_one]
    simp [hj, bv, List.getD_eq_getElem?_getD, List.getElem?_replicate]
  go_loopw [4, 10] (fun u i wr => ∃ k : Nat, k ≤ s.size ∧ i = .int .i64 k ∧ Bys wr w.heap.size (half (List.replicate s.size (0 : UInt8)) s.data.toList k) ∧ Below w.heap.size w wr) (fun _ i _ => s.size - (intOf i).toNat)
  case atStart => exact ⟨0, Nat.zero_le _, rfl, hB0, ((Below.refl _ _).alloc (Nat.le_refl _) _)⟩
  case round =>
    obtain ⟨k, hk, rfl, hB, hbel⟩ := hrel
    clear hB0 hmk
    have hz := size_list s
    by_cases hlt : k < s.size
    · have hlt' : k < s.data.toList.length := by omega
      have hlh := half_length _ _ k hr
      obtain ⟨cv, hc⟩ : ∃ cv, wr.cell? ⟨w.heap.size, k, none⟩ = some cv := ⟨_, hB.cell (by omega)⟩
      have hf : wr.frozen? ⟨w.heap.size, k, none⟩ = false := hB.frozen (by omega)
      have hb := byte_bd s k hlt
      have hset := hB.set (k := k) (by omega) (lowB s[k])
      rw [half_step _ _ k hr hlt' s[k] rfl, bv_low] at hset
      have hbs := hbel.setCell (p := ⟨w.heap.size, k, none⟩) (Nat.le_refl _) (.int .u8 (lowI s[k].toNat))
      have HS := Lib.hid hset
      have HB := Lib.hid hbs
      clear hset hbs hz hr hlh
      go_wp2_with (go_at_call 84; refine (lowerByte_any _ _ hb.1 hb.2).mono ?_; rintro e w' ⟨rfl, rfl⟩)
      go_roundw
      case rel => exact ⟨k + 1, by omega, by go_num, HS.out, HB.out⟩
      case measure => simp [intOf]; omega
    · have hst := hB.str (P := Try.prog) 57 9 5 s.size s.size (by rw [half_length _ _ k hr, hz]) Try.underlying57 Try.underlying5 Try.underlying9
      rw [half_end _ _ k hr (by omega)] at hst
      clear hz hr
      go_wp2
      go_ret
      exact ⟨rfl, hbel⟩
theorem rLower_any (s : ByteArray) (w : World) (hs : s.size ≤ 4294967296) :
    Calls Try.prog 36 #[.string s] w fun e w' => e = .returned (.string ⟨(lowL s.data.toList).toArray⟩) ∧ Below w.heap.size w w' := by
  have hcv := fun (w : World) => run_bytes_of_string (P := Try.prog) w 9 57 5 s Try.underlying9 Try.underlying57 Try.underlying5
  go_enter Try.func36, Try.ntmps36
  go_wp2
  have hB0 : Bys (w.alloc (.cells (bytesRow s (grownCap w s.size 0 5)) 5 ((bytesRow s (grownCap w s.size 0 5)).size, (bytesRow s (grownCap w s.size 0 5)).size + 1))).drew w.heap.size (half s.data.toList s.data.toList 0) := by
    rw [half_zero]
    refine (Bys.new w _ _ _ _ _ ?_ ?_).drew
    · simp [bytesRow]
    · intro j hj
      rw [bytesRow_at s _ j (by simpa using hj), getD_get _ _ hj]; rfl
  go_loopw [4] (fun i wr => ∃ k : Nat, k ≤ s.size ∧ i = .int .i64 k ∧ Bys wr w.heap.size (half s.data.toList s.data.toList k) ∧ Below w.heap.size w wr) (fun i _ => s.size - (intOf i).toNat)
  case atStart => exact ⟨0, Nat.zero_le _, rfl, hB0, ((Below.refl _ _).alloc (Nat.le_refl _) _).drew⟩
  case round =>
    obtain ⟨k, hk, rfl, hB, hbel⟩ := hrel
    clear hB0 hcv
    have hz := size_list s
    by_cases hlt : k < s.size
    · have hlt' : k < s.data.toList.length := by omega
      have hlh := half_length s.data.toList s.data.toList k rfl
      have hc : wr.cell? ⟨w.heap.size, k, none⟩ = some (.int .u8 (s[k].toNat : Int)) := by
        have := hB.cell (j := k) (by omega)
        rw [half_get _ _ k rfl hlt', data_at s k hlt] at this; exact this
      have hf : wr.frozen? ⟨w.heap.size, k, none⟩ = false := hB.frozen (by omega)
      have hb := byte_bd s k hlt
      have hset := hB.set (k := k) (by omega) (lowB s[k])
      rw [half_step _ _ k rfl hlt' s[k] rfl, bv_low] at hset
      have hsame : lowI s[k].toNat = s[k].toNat → Bys wr w.heap.size (half s.data.toList s.data.toList (k + 1)) := fun h => by
        have e := half_step s.data.toList s.data.toList k rfl hlt' s[k] rfl
        rw [← e]
        rw [lowB_same h]
        have h3 : (half s.data.toList s.data.toList k).set k s[k] = half s.data.toList s.data.toList k := by
          apply List.ext_getElem?; intro j
          by_cases ej : k = j
          · subst ej
            have h4 := half_get s.data.toList s.data.toList k rfl hlt'
            rw [data_at s k hlt, getD_get _ _ (by omega)] at h4
            rw [List.getElem?_set_self (by omega), List.getElem?_eq_getElem (by omega), h4]
          · rw [List.getElem?_set_ne ej]
        rw [h3]; exact hB
      have hbs := hbel.setCell (p := ⟨w.heap.size, k, none⟩) (Nat.le_refl _) (.int .u8 (lowI s[k].toNat))
      have HS := Lib.hid hset
      have HB := Lib.hid hbs
      have HM := Lib.hid hsame
      clear hset hbs hz hlh hsame
      go_wp2
      · go_roundw
        case rel =>
          have el : lowI s[k].toNat = s[k].toNat + 32 := by unfold lowI; rw [if_pos ⟨‹_›, ‹_›⟩]
          have h1 := HS.out; have h2 := HB.out
          rw [el] at h1 h2
          exact ⟨k + 1, by omega, by go_num, h1, h2⟩
        case measure => simp [intOf]; omega
      all_goals
        go_roundw
        case rel => exact ⟨k + 1, by omega, by go_num, HM.out (by unfold lowI; rw [if_neg (by omega)]), hbel⟩
        case measure => simp [intOf]; omega
    · have hst := fun cap => hB.str (P := Try.prog) 57 9 5 s.size cap (by rw [half_length _ _ k rfl, hz]) Try.underlying57 Try.underlying5 Try.underlying9
      rw [half_end _ _ k rfl (by omega)] at hst
      clear hz
      go_wp2
      go_ret
      exact ⟨rfl, hbel⟩
end
section
open Go.RowKit
def numT (o : Option Int) : Value := .tuple #[.int .i64 (numV o).1, .bool (numV o).2]
theorem numT_of {o : Option Int} {a : Int} {b : Bool} (h : numV o = (a, b)) : Ending.returned (.tuple #[.int .i64 a, .bool b]) = .returned (numT o) := by
  unfold numT; rw [h]
theorem appendDigit_any (v d : Int) (w : World) (h0 : 0 ≤ v) (h1 : v ≤ 2147483647) (h2 : 0 ≤ d) (h3 : d ≤ 9) :
    Calls Try.prog 86 #[.int .i64 v, .int .i64 d] w fun e w' => e = .returned (.int .i64 (satI v d)) ∧ w = w' := by
  go_enter Try.func86, Try.ntmps86
  go_wp2
  all_goals (go_ret; exact ⟨ret_int (by unfold satI; split <;> omega), rfl⟩)
theorem Number_any (s : ByteArray) (w : World) (hs : s.size ≤ maxLen) :
    Calls Try.prog 67 #[.string s] w fun e w' => e = .returned (numT (numL s.data.toList)) ∧ w = w' := by
  unfold maxLen at hs
  go_enter Try.func67, Try.ntmps67
  go_wp2
  go_loop [4, 5, 8] (fun v _ i => ∃ k : Nat, k ≤ s.size ∧ i = .int .i64 k ∧ v = .int .i64 (numF (s.data.toList.take k)) ∧ 0 ≤ numF (s.data.toList.take k) ∧ numF (s.data.toList.take k) ≤ 2147483647 ∧ allI digitI (s.data.toList.take k) = true) (fun _ _ i => s.size - (intOf i).toNat)
  case atStart => exact ⟨0, Nat.zero_le _, rfl, rfl, by simp [numF], by simp [numF], rfl⟩
  case round =>
    obtain ⟨k, hk, rfl, rfl, hn0, hn1, hall⟩ := hrel
    by_cases hlt : k < s.size
    · have hb := byte_bd s k hlt
      rcases hp : digitI (s[k].toNat) with _ | _
      · go_wp2_with (go_at_call 85; refine (isDigit_any _ _ hb.1 hb.2).mono ?_; rintro e w' ⟨rfl, rfl⟩)
        go_ret2
        exact ⟨numT_of (by rw [num_not hlt hp]; rfl), rfl⟩
      · have hd := digitI_bd hp
        have HM := Lib.hid (numF_more hlt)
        have HB := satI_bd (v := numF (s.data.toList.take k)) (d := (s[k].toNat : Int) - 48) hn0 (by omega)
        rw [← HM.out] at HB
        have HBB := Lib.hid HB
        have HA := Lib.hid (all_more hall hlt hp)
        have HH := Lib.hid hall
        clear HB hall
        go_wp2_with (first | (go_at_call 85; refine (isDigit_any _ _ hb.1 hb.2).mono ?_; rintro e w' ⟨rfl, rfl⟩) | (go_at_call 86; refine (appendDigit_any _ _ _ hn0 hn1 (by omega) (by omega)).mono ?_; rintro e w' ⟨rfl, rfl⟩))
        go_round
        case rel => exact ⟨k + 1, by omega, by go_num, by rw [HM.out], HBB.out.1, HBB.out.2, HA.out⟩
        case measure => simp [intOf]; omega
    · go_wp2
      go_ret2
      exact ⟨numT_of (num_end hall (by omega)), rfl⟩
end
section
open Go.RowKit
theorem ret_str {a b : ByteArray} (h : a = b) : Ending.returned (.string a) = .returned (.string b) := by rw [h]
theorem str_ext {a : ByteArray} {l : List UInt8} (h : a.data.toList = l) : a = ⟨l.toArray⟩ := by
  subst h; rfl
theorem extract_list (s : ByteArray) (i j : Nat) : (s.extract i j).data.toList = (s.data.toList.take j).drop i := by
  rw [ByteArray.data_extract, Array.toList_extract, List.extract_eq_take_drop, List.drop_take]
theorem blank_at {s : ByteArray} {k : Nat} {b : Bool} (hk : k < s.size) (h : blankB (s.data.toList.getD k 0) = b) : blankI (s[k].toNat) = b := by
  rw [getD_at s k hk] at h; exact h
theorem blank_drop {t : ByteArray} {l : List UInt8} {k : Nat} {b : Bool} (ht : t.data.toList = l.drop k) (h0 : 0 < t.size) (h : blankB (l.getD k 0) = b) : blankI (t[0].toNat) = b := by
  refine blank_at (s := t) (k := 0) h0 ?_
  rw [ht]; rw [← h]; simp [List.getD_eq_getElem?_getD, List.getElem?_drop]
theorem blank_last {t : ByteArray} {l : List UInt8} {k e : Nat} {b : Bool} (ht : t.data.toList = (l.take e).drop k) (hl : t.size - 1 < t.size) (hsz : t.size = e - k) (h : blankB (l.getD (e - 1) 0) = b) : blankI (t[t.size - 1].toNat) = b := by
  refine blank_at (s := t) (k := t.size - 1) hl ?_
  rw [ht, ← h]
  simp only [List.getD_eq_getElem?_getD, List.getElem?_drop]
  rw [List.getElem?_take_of_lt (by omega), show k + (t.size - 1) = e - 1 by omega]
theorem list_size {t : ByteArray} {l : List UInt8} (h : t.data.toList = l) : t.size = l.length := by subst h; simp
set_option maxHeartbeats 800000 in
theorem Trim_any (s : ByteArray) (w : World) (hs : s.size ≤ maxLen) :
    Calls Try.prog 62 #[.string s] w fun e w' => e = .returned (.string ⟨(trimL s.data.toList).toArray⟩) ∧ w = w' := by
  unfold maxLen at hs
  obtain ⟨k0, e0, ht⟩ := ex_trim s.data.toList
  have HR : Hid (s.extract k0 e0 = ⟨(trimL s.data.toList).toArray⟩) := Lib.hid (str_ext (by rw [extract_list, trim_at ht]))
  obtain ⟨h1, h2, h3, h4, h5, h6⟩ := ht
  have hz : s.data.toList.length = s.size := by simp
  rw [hz] at h2
  have H3 := Lib.hid h3
  have H4 := Lib.hid h4
  have H5 := Lib.hid h5
  have H6 := Lib.hid h6
  clear h3 h4 h5 h6 hz
  go_enter Try.func62, Try.ntmps62
  go_wp2
  go_loop [3] (fun i => ∃ k : Nat, k ≤ k0 ∧ i = .int .i64 k) (fun i => s.size - (intOf i).toNat)
  case atStart => exact ⟨0, Nat.zero_le _, rfl⟩
  case round =>
    obtain ⟨k, hk, rfl⟩ := hrel
    by_cases hlt : k < k0
    · have hks : k < s.size := by omega
      have hb := byte_bd s k hks
      have hbl := blank_at hks (H3.out k hlt)
      go_wp2_with (go_at_call 81; refine (isBlank_any _ _).mono ?_; rintro e w' ⟨rfl, rfl⟩)
      go_round
      case rel => exact ⟨k + 1, by omega, by go_num⟩
      case measure => simp [intOf]; omega
    · obtain rfl : k = k0 := by omega
      by_cases hks : k < s.size
      · have hbl := blank_at hks (H5.out (by simpa using hks))
        go_wp2_with (go_at_call 81; refine (isBlank_any _ _).mono ?_; rintro e w' ⟨rfl, rfl⟩)
        go_loop [4] (fun j => ∃ e : Nat, e0 ≤ e ∧ e ≤ s.size ∧ j = .int .i64 e) (fun j => (intOf j).toNat)
        case atStart => exact ⟨s.size, h2, Nat.le_refl _, rfl⟩
        case round =>
          obtain ⟨e, he, hes, rfl⟩ := hrel
          by_cases hle : e0 < e
          · have hq : e - 1 < s.size := by omega
            have hbe := blank_at hq (H4.out (e - 1) (by omega) (by simpa using hq))
            go_wp2_with (go_at_call 81; refine (isBlank_any _ _).mono ?_; rintro e w' ⟨rfl, rfl⟩)
            go_round
            case rel => exact ⟨e - 1, by omega, by omega, by go_num⟩
            case measure => simp [intOf]; omega
          · obtain rfl : e = e0 := by omega
            by_cases hke : k < e
            · have hq : e - 1 < s.size := by omega
              have hbe := blank_at hq (H6.out hke)
              go_wp2_with (go_at_call 81; refine (isBlank_any _ _).mono ?_; rintro e w' ⟨rfl, rfl⟩)
              go_ret
              exact ⟨ret_str HR.out, rfl⟩
            · go_wp2
              go_ret
              exact ⟨ret_str HR.out, rfl⟩
      · go_wp2
        go_loop [4] (fun j => ∃ e : Nat, e0 ≤ e ∧ e ≤ s.size ∧ j = .int .i64 e) (fun j => (intOf j).toNat)
        case atStart => exact ⟨s.size, h2, Nat.le_refl _, rfl⟩
        case round =>
          obtain ⟨e, he, hes, rfl⟩ := hrel
          by_cases hle : e0 < e
          · exfalso; omega
          · obtain rfl : e = e0 := by omega
            by_cases hke : k < e
            · exfalso; omega
            · go_wp2
              go_ret
              exact ⟨ret_str HR.out, rfl⟩
set_option maxHeartbeats 800000 in
theorem rTrim_any (s : ByteArray) (w : World) (hs : s.size ≤ maxLen) :
    Calls Try.prog 25 #[.string s] w fun e w' => e = .returned (.string ⟨(trimL s.data.toList).toArray⟩) ∧ w = w' := by
  unfold maxLen at hs
  obtain ⟨k0, e0, ht⟩ := ex_trim s.data.toList
  have HR := Lib.hid (trim_at ht)
  obtain ⟨h1, h2, h3, h4, h5, h6⟩ := ht
  have hz : s.data.toList.length = s.size := by simp
  rw [hz] at h2
  have H3 := Lib.hid h3
  have H4 := Lib.hid h4
  have H5 := Lib.hid h5
  have H6 := Lib.hid h6
  clear h3 h4 h5 h6 hz
  go_enter Try.func25, Try.ntmps25
  go_wp2
  go_loop [0] (fun i => ∃ (t : ByteArray) (k : Nat), k ≤ k0 ∧ i = .string t ∧ Hid (t.data.toList = s.data.toList.drop k) ∧ Hid (t.size = s.size - k)) (fun i => match i with | .string t => t.size | _ => 0)
  case atStart => exact ⟨s, 0, Nat.zero_le _, rfl, Lib.hid (by simp), Lib.hid (by simp)⟩
  case round =>
    obtain ⟨t, k, hk, rfl, HT, HZ⟩ := hrel
    by_cases hlt : k < k0
    · have h0 : 0 < t.size := by have := HZ.out; omega
      have hle : t.size ≤ s.size := by have := HZ.out; omega
      have hbl := blank_drop HT.out h0 (H3.out k hlt)
      have hb := byte_bd t 0 h0
      go_wp2_with (go_at_call 35; refine (rblank_any _ _).mono ?_; rintro e w' ⟨rfl, rfl⟩)
      go_round
      case rel =>
        have e1 : (t.extract 1 t.size).data.toList = s.data.toList.drop (k + 1) := by
          rw [extract_list, List.take_of_length_le (by simp), HT.out, List.drop_drop]
        exact ⟨_, k + 1, by omega, rfl, Lib.hid e1, Lib.hid (by rw [list_size e1]; simp)⟩
      case measure => simp; omega
    · obtain rfl : k = k0 := by omega
      by_cases hks : k < s.size
      · have h0 : 0 < t.size := by have := HZ.out; omega
        have hle : t.size ≤ s.size := by have := HZ.out; omega
        have hbl := blank_drop HT.out h0 (H5.out (by simpa using hks))
        go_wp2_with (go_at_call 35; refine (rblank_any _ _).mono ?_; rintro e w' ⟨rfl, rfl⟩)
        go_loop [0] (fun i => ∃ (t : ByteArray) (e : Nat), e0 ≤ e ∧ e ≤ s.size ∧ i = .string t ∧ Hid (t.data.toList = (s.data.toList.take e).drop k) ∧ Hid (t.size = e - k)) (fun i => match i with | .string t => t.size | _ => 0)
        case atStart => exact ⟨t, s.size, h2, Nat.le_refl _, rfl, Lib.hid (by rw [List.take_of_length_le (by simp)]; exact HT.out), HZ⟩
        case round =>
          obtain ⟨t, e, he, hes, rfl, HT, HZ⟩ := hrel
          by_cases hle : e0 < e
          · have h0 : 0 < t.size := by have := HZ.out; omega
            have hl : t.size - 1 < t.size := by omega
            have hsz : t.size ≤ s.size := by have := HZ.out; omega
            have hbl := blank_last HT.out hl HZ.out (H4.out (e - 1) (by omega) (by simp; omega))
            have e1 : (t.extract 0 (t.size - 1)).data.toList = (s.data.toList.take (e - 1)).drop k := by
              rw [extract_list, HT.out, List.drop_zero, HZ.out, show e - k - 1 = e - 1 - k by omega, ← List.drop_take, List.take_take, Nat.min_eq_left (by omega)]
            have E1 := Lib.hid e1
            have E2 : Hid ((t.extract 0 (t.size - 1)).size = e - 1 - k) := Lib.hid (by rw [list_size e1]; simp; omega)
            clear e1
            go_wp2_with (go_at_call 35; refine (rblank_any _ _).mono ?_; rintro e w' ⟨rfl, rfl⟩)
            go_round
            case rel => exact ⟨_, e - 1, by omega, by omega, rfl, E1, E2⟩
            case measure => simp; omega
          · obtain rfl : e = e0 := by omega
            have hsz : t.size ≤ s.size := by have := HZ.out; omega
            have HF : Hid (t = ⟨(trimL s.data.toList).toArray⟩) := Lib.hid (str_ext (by rw [HT.out, HR.out]))
            by_cases hke : k < e
            · have h0 : 0 < t.size := by have := HZ.out; omega
              have hl : t.size - 1 < t.size := by omega
              have hbl := blank_last HT.out hl HZ.out (H6.out hke)
              go_wp2_with (go_at_call 35; refine (rblank_any _ _).mono ?_; rintro e w' ⟨rfl, rfl⟩)
              go_ret
              exact ⟨ret_str HF.out, rfl⟩
            · have h0 : t.size = 0 := by have := HZ.out; omega
              go_wp2
              go_ret
              exact ⟨ret_str HF.out, rfl⟩
      · have h0 : t.size = 0 := by have := HZ.out; omega
        go_wp2
        go_loop [0] (fun i => ∃ (t : ByteArray) (e : Nat), e0 ≤ e ∧ e ≤ s.size ∧ i = .string t ∧ Hid (t.data.toList = (s.data.toList.take e).drop k) ∧ Hid (t.size = e - k)) (fun i => match i with | .string t => t.size | _ => 0)
        case atStart => exact ⟨t, s.size, h2, Nat.le_refl _, rfl, Lib.hid (by rw [List.take_of_length_le (by simp)]; exact HT.out), HZ⟩
        case round =>
          obtain ⟨t, e, he, hes, rfl, HT, HZ⟩ := hrel
          by_cases hle : e0 < e
          · exfalso; omega
          · obtain rfl : e = e0 := by omega
            have hsz : t.size ≤ s.size := by have := HZ.out; omega
            have HF : Hid (t = ⟨(trimL s.data.toList).toArray⟩) := Lib.hid (str_ext (by rw [HT.out, HR.out]))
            by_cases hke : k < e
            · exfalso; omega
            · have h0 : t.size = 0 := by have := HZ.out; omega
              go_wp2
              go_ret
              exact ⟨ret_str HF.out, rfl⟩
end
section
open Go.RowKit
theorem take_while2 {p : UInt8 → Bool} (m : List UInt8) : m.take (m.takeWhile p).length = m.takeWhile p ∧ m.drop (m.takeWhile p).length = m.dropWhile p := by
  have e := List.takeWhile_append_dropWhile (p := p) (l := m)
  constructor
  · have h : (m.takeWhile p ++ m.dropWhile p).take (m.takeWhile p).length = m.takeWhile p := List.take_left
    rwa [e] at h
  · have h : (m.takeWhile p ++ m.dropWhile p).drop (m.takeWhile p).length = m.dropWhile p := List.drop_left
    rwa [e] at h
/-- how far the bytes from f on go that p holds of -/
theorem while_at (p : UInt8 → Bool) (s : ByteArray) (f : Nat) (hf : f ≤ s.size) (t : Nat) (ht : t = f + ((s.data.toList.drop f).takeWhile p).length) :
    t ≤ s.size ∧ (∀ k, f ≤ k → k < t → ∀ h : k < s.size, p s[k] = true) ∧ (∀ h : t < s.size, p s[t] = false) ∧ (s.data.toList.drop f).takeWhile p = (s.data.toList.drop f).take (t - f) ∧ (s.data.toList.drop f).dropWhile p = s.data.toList.drop t := by
  have e := List.takeWhile_append_dropWhile (p := p) (l := s.data.toList.drop f)
  have hz : s.data.toList.length = s.size := by simp
  have hl := congrArg List.length e
  rw [List.length_append, List.length_drop, hz] at hl
  obtain ⟨w1, w2⟩ := take_while2 (p := p) (s.data.toList.drop f)
  have h1 : t - f = ((s.data.toList.drop f).takeWhile p).length := by omega
  have htw : (s.data.toList.drop f).takeWhile p = (s.data.toList.drop f).take (t - f) := by rw [h1]; exact w1.symm
  have hdw : (s.data.toList.drop f).dropWhile p = s.data.toList.drop t := by
    rw [← w2, List.drop_drop, ht]
  refine ⟨by omega, fun k hk hkt h => ?_, fun h => ?_, htw, hdw⟩
  · have hm : s[k] ∈ (s.data.toList.drop f).takeWhile p := by
      rw [htw]
      refine List.mem_iff_getElem.mpr ⟨k - f, by rw [List.length_take, List.length_drop]; omega, ?_⟩
      rw [List.getElem_take, List.getElem_drop]
      have : f + (k - f) = k := by omega
      simp only [this]; rfl
    exact List.all_eq_true.mp (List.all_takeWhile (p := p) (l := s.data.toList.drop f)) _ hm
  · have hd := List.head?_dropWhile_not (p := p) (l := s.data.toList.drop f)
    rw [hdw, drop_cons s t h] at hd
    simpa using hd
def nlV (n : Nat) : Int ⊕ (List UInt8 × List UInt8) → Value
  | .inl e => .tuple #[.string ⟨#[]⟩, .int .i64 0, .int .i64 e]
  | .inr (t, r) => .tuple #[.string (bs t), .int .i64 ((n : Int) - r.length), .int .i64 0]
theorem eol_not {c : UInt8} (h : eolB c = false) : c = 13 ∨ c = 10 := by
  unfold eolB at h
  rw [Bool.and_eq_false_iff] at h
  rcases h with h | h
  · left; simpa using h
  · right; simpa using h
theorem eol_yes {c : UInt8} (h : eolB c = true) : ((c.toNat : Int) != 13) = true ∧ ((c.toNat : Int) != 10) = true := by
  have key : ∀ x : Fin 256, eolB (UInt8.ofNat x.1) = true → (((x.1 : Nat) : Int) != 13) = true ∧ (((x.1 : Nat) : Int) != 10) = true := by decide +kernel
  have := key ⟨c.toNat, c.toNat_lt⟩
  simp only [UInt8.ofNat_toNat] at this
  exact this h
set_option maxHeartbeats 1000000 in
theorem rNextLine_any (s : ByteArray) (f : Nat) (w : World) (hs : s.size ≤ 4000000) (hf : f ≤ s.size) :
    Calls Try.prog 10 #[.string s, .int .i64 f] w fun e w' => e = .returned (nlV s.size (nextL (s.data.toList.drop f))) ∧ w = w' := by
  obtain ⟨t, ht⟩ : ∃ t, t = f + ((s.data.toList.drop f).takeWhile eolB).length := ⟨_, rfl⟩
  obtain ⟨h1, h2, h3, h4, h5⟩ := while_at eolB s f hf t ht
  have hft : f ≤ t := by omega
  have hz : s.data.toList.length = s.size := by simp
  have HY := box h2
  have HN : Box (nextL (s.data.toList.drop f) = if 2000 < t - f then .inl 4 else match s.data.toList.drop t with | [] => .inl 2 | [c] => if c = 10 then .inl 1 else .inl 2 | c :: d :: r => if c = 10 then .inl 1 else if d = 10 then .inr ((s.data.toList.drop f).take (t - f), r) else .inl 1) := box (by
    unfold nextL
    rw [h4, h5]
    have : ((s.data.toList.drop f).take (t - f)).length = t - f := by rw [← h4]; omega
    rw [this]; rfl)
  clear h2 h4 h5 ht
  go_enter Try.func10, Try.ntmps10
  go_wp2
  go_loop [7] (fun i => ∃ k : Nat, f ≤ k ∧ k ≤ t ∧ i = .int .i64 k) (fun i => t - (intOf i).toNat)
  case atStart => exact ⟨f, Nat.le_refl _, hft, rfl⟩
  case round =>
    obtain ⟨k, hk1, hk2, rfl⟩ := hrel
    by_cases hlt : k < t
    · have hks : k < s.size := by omega
      have hki : (k : Int) < (s.size : Int) := by omega
      obtain ⟨e1, e2⟩ := eol_yes (HY.out k hk1 hlt hks)
      go_wp2
      go_round
      case rel => exact ⟨k + 1, by omega, by omega, by go_num⟩
      case measure => simp [intOf]; omega
    · obtain rfl : k = t := by omega
      clear hlt hk2
      by_cases hlong : 2000 < k - f
      · have HE : Box (nextL (s.data.toList.drop f) = .inl 4) := box (by rw [HN.out, if_pos hlong])
        have hli : (2000 : Int) < (k : Int) - (f : Int) := by omega
        by_cases hks : k < s.size
        · have hki : (k : Int) < (s.size : Int) := by omega
          rcases eol_not (h3 hks) with e | e
          · have e1 : ((s[k].toNat : Int) != 13) = false := by rw [e]; rfl
            go_wp2
            go_ret3
            exact ⟨by rw [HE.out]; rfl, rfl⟩
          · have e1 : ((s[k].toNat : Int) != 13) = true := by rw [e]; rfl
            have e2 : ((s[k].toNat : Int) != 10) = false := by rw [e]; rfl
            go_wp2
            go_ret3
            exact ⟨by rw [HE.out]; rfl, rfl⟩
        · have hki : ¬ (k : Int) < (s.size : Int) := by omega
          go_wp2
          go_ret3
          exact ⟨by rw [HE.out]; rfl, rfl⟩
      · have hli : ¬ (2000 : Int) < (k : Int) - (f : Int) := by omega
        rw [if_neg hlong] at HN
        by_cases hks : k < s.size
        · have hki : (k : Int) < (s.size : Int) := by omega
          have hke : ((k : Int) == (s.size : Int)) = false := by rw [beq_eq_false_iff_ne]; omega
          have hdk := drop_cons s k hks
          rw [hdk] at HN
          rcases eol_not (h3 hks) with e | e
          · have e1 : ((s[k].toNat : Int) != 13) = false := by rw [e]; rfl
            have e3 : ((s[k].toNat : Int) == 10) = false := by rw [e]; rfl
            have e10 : s[k] ≠ 10 := by rw [e]; decide
            by_cases hk1s : k + 1 < s.size
            · have hk1i : (k : Int) + 1 < (s.size : Int) := by omega
              have hk1e : ((k : Int) + 1 == (s.size : Int)) = false := by rw [beq_eq_false_iff_ne]; omega
              rw [drop_cons s (k + 1) hk1s] at HN
              simp only [if_neg e10] at HN
              rcases hq : ((s[k + 1].toNat : Int) != 10) with _ | _
              · have hq10 : s[k + 1] = 10 := byte_eq (n := 10) (by simpa using hq) (by omega)
                have HE : Box (nextL (s.data.toList.drop f) = .inr ((s.data.toList.drop f).take (k - f), s.data.toList.drop (k + 1 + 1))) := box (by rw [HN.out, if_pos hq10])
                have hfk : (f : Int) ≤ (k : Int) := by omega
                clear e hdk HN hq10 e10
                go_wp2
                go_ret3
                refine ⟨?_, rfl⟩
                rw [HE.out]
                show Ending.returned (.tuple #[.string (s.extract f k), .int .i64 ((k : Int) + 2), .int .i64 0]) = _
                show _ = Ending.returned (.tuple #[.string (bs ((s.data.toList.drop f).take (k - f))), .int .i64 ((s.size : Int) - ((s.data.toList.drop (k + 1 + 1)).length : Int)), .int .i64 0])
                rw [ext_bs, List.length_drop, hz, List.drop_take]
                have e5 : (s.size : Int) - ((s.size - (k + 1 + 1) : Nat) : Int) = (k : Int) + 2 := by omega
                rw [e5]
              · have hq10 : ¬ s[k + 1] = 10 := by intro e; rw [e] at hq; simp at hq
                have HE : Box (nextL (s.data.toList.drop f) = .inl 1) := box (by rw [HN.out, if_neg hq10])
                clear e hdk HN hq10 e10
                go_wp2
                go_ret3
                exact ⟨by rw [HE.out]; rfl, rfl⟩
            · have hk1e : ((k : Int) + 1 == (s.size : Int)) = true := by rw [beq_iff_eq]; omega
              rw [List.drop_of_length_le (i := k + 1) (by omega)] at HN
              have HE : Box (nextL (s.data.toList.drop f) = .inl 2) := box (by rw [HN.out]; simp only [if_neg e10])
              clear e hdk HN e10
              go_wp2
              go_ret3
              exact ⟨by rw [HE.out]; rfl, rfl⟩
          · have e1 : ((s[k].toNat : Int) != 13) = true := by rw [e]; rfl
            have e2 : ((s[k].toNat : Int) != 10) = false := by rw [e]; rfl
            have e3 : ((s[k].toNat : Int) == 10) = true := by rw [e]; rfl
            have HE : Box (nextL (s.data.toList.drop f) = .inl 1) := box (by
              rw [HN.out]
              rcases s.data.toList.drop (k + 1) with _ | ⟨d, r⟩ <;> simp only [if_pos e])
            clear e hdk HN
            go_wp2
            go_ret3
            exact ⟨by rw [HE.out]; rfl, rfl⟩
        · have hki : ¬ (k : Int) < (s.size : Int) := by omega
          have hke : ((k : Int) == (s.size : Int)) = true := by rw [beq_iff_eq]; omega
          rw [List.drop_of_length_le (i := k) (by omega)] at HN
          have HE : Box (nextL (s.data.toList.drop f) = .inl 2) := box HN.out
          clear HN
          go_wp2
          go_ret3
          exact ⟨by rw [HE.out]; rfl, rfl⟩
end
section
open Go.RowKit
def szV : Option Nat → Value
  | some n => .tuple #[.int .i64 n, .bool true]
  | none => .tuple #[.int .i64 0, .bool false]
theorem hexN_snoc (l : List UInt8) (c : UInt8) : hexN (l ++ [c]) = hexN l * 16 + (hexI c.toNat).toNat := by
  unfold hexN; rw [List.foldl_append]; rfl
theorem hexN_lt (l : List UInt8) (h : ∀ c ∈ l, hexB c = true) : hexN l < 16 ^ l.length := by
  have key : ∀ (l : List UInt8) (a : Nat), (∀ c ∈ l, hexB c = true) → l.foldl (fun n c => n * 16 + (hexI c.toNat).toNat) a < (a + 1) * 16 ^ l.length := by
    intro l
    induction l with
    | nil => intro a _; simp
    | cons c l ih =>
      intro a h
      have h1 := ih (a * 16 + (hexI c.toNat).toNat) (fun x hx => h x (by simp [hx]))
      have h2 := hex_bd (h c (by simp))
      rw [List.foldl_cons, List.length_cons, Nat.pow_succ, Nat.mul_comm (16 ^ l.length) 16, ← Nat.mul_assoc]
      refine Nat.lt_of_lt_of_le h1 (Nat.mul_le_mul_right _ (by omega))
  have := key l 0 h
  simpa [hexN] using this
def lowS : ByteArray := ⟨#[48, 49, 50, 51, 52, 53, 54, 55, 56, 57, 97, 98, 99, 100, 101, 102]⟩
theorem lowS_at : ∀ k : Fin 16, lowS.extract k.1 (k.1 + 1) = bs [lowD.getD k.1 0] := by decide +kernel
set_option maxHeartbeats 1000000 in
theorem rhex_any (n : Nat) (w : World) (hn : n ≤ 4000000) :
    Calls Try.prog 21 #[.int .i64 n] w fun e w' => e = .returned (.string (bs (hexL n))) ∧ w = w' := by
  go_enter Try.func21, Try.ntmps21
  go_wp2
  go_loop [0, 3] (fun i v => ∃ (m f : Nat) (acc : ByteArray), i = .int .i64 m ∧ v = .string acc ∧ m ≤ f ∧ m + acc.size ≤ n ∧ hexL n = hexF f m acc.data.toList) (fun i _ => (intOf i).toNat)
  case atStart => exact ⟨n, n, ⟨#[]⟩, rfl, rfl, Nat.le_refl _, Nat.le_refl _, rfl⟩
  case round =>
    obtain ⟨m, f, acc, rfl, rfl, hmf, hma, hE⟩ := hrel
    have HE := box hE
    clear hE
    by_cases hm : m = 0
    · subst hm
      have HF : Box (hexL n = acc.data.toList) := box (by
        rw [HE.out]
        cases f <;> simp [hexF])
      have hmi : ¬ (0 : Int) < ((0 : Nat) : Int) := by omega
      go_wp2
      go_ret
      exact ⟨ret_str (by rw [HF.out]; rfl), rfl⟩
    · obtain ⟨d, hd⟩ : ∃ d, m % 16 = d := ⟨_, rfl⟩
      obtain ⟨q, hq⟩ : ∃ q, m / 16 = q := ⟨_, rfl⟩
      have hd16 : d < 16 := by omega
      have hmi : (0 : Int) < (m : Int) := by omega
      have e1 : (m : Int) % 16 = (d : Int) := by omega
      have e2 : (m : Int) / 16 = (q : Int) := by omega
      have d1 : (d : Int) + 1 ≤ 16 := by omega
      have hacc : acc.size ≤ 4000000 := by omega
      have hqm : q < m := by omega
      have hx := lowS_at ⟨d, hd16⟩
      obtain ⟨f', rfl⟩ : ∃ f', f = f' + 1 := ⟨f - 1, by omega⟩
      have HF : Box (hexL n = hexF f' q ((bs [lowD.getD d 0] ++ acc).data.toList)) := box (by
        rw [HE.out]
        conv => lhs; unfold hexF
        rw [if_neg hm, hd, hq]
        congr 1 <;> simp [ByteArray.data_append, bs])
      have HX := box hx
      have hb1 : (bs [lowD.getD d 0]).size = 1 := rfl
      have hsz : m / 16 + (1 + acc.size) ≤ n := by omega
      rw [hq] at hsz
      clear hx hd hq
      go_wp2
      rw [show (⟨#[48, 49, 50, 51, 52, 53, 54, 55, 56, 57, 97, 98, 99, 100, 101, 102]⟩ : ByteArray).extract d (d + 1) = bs [lowD.getD d 0] from HX.out]
      go_round
      case rel => exact ⟨q, f', _, rfl, rfl, by omega, by rw [ByteArray.size_append, hb1]; exact hsz, HF.out⟩
      case measure => simp [intOf]; omega
end
section
open Go.RowKit
theorem below_new (w : World) (o : Obj) : Below w.heap.size w (w.alloc o) := (Below.refl _ _).alloc (Nat.le_refl _) o
theorem below_new1 (w : World) (o : Obj) (n : Nat) : Below w.heap.size w ((w.alloc o).drewN n) := (below_new w o).trans ((below_drewN _ _).mono (below_new w o).size)
/-- a field lies at the block's start, and may be written -/
def Fld (g : Nat) (x y : ByteArray) (w : World) : Prop :=
  w.cell? ⟨g, 0, none⟩ = some (.string x) ∧ w.cell? ⟨g, 1, none⟩ = some (.string y) ∧ w.frozen? ⟨g, 0, none⟩ = false ∧ w.frozen? ⟨g, 1, none⟩ = false
theorem Fld.new (x y : ByteArray) (w : World) (t : TypeId) : Fld w.heap.size x y (w.alloc (.cells #[.string x, .string y] t)) := by
  exact ⟨by rw [World.cell?_alloc_mark]; rfl, by rw [World.cell?_alloc_mark]; rfl, by rw [World.frozen?_alloc_at _ _ _ _ rfl], by rw [World.frozen?_alloc_at _ _ _ _ rfl]⟩
theorem Fld.below {g B : Nat} {x y : ByteArray} {w w' : World} (h : Fld g x y w) (hb : Below B w w') (hg : g < B) : Fld g x y w' := by
  obtain ⟨h1, h2, h3, h4⟩ := h
  exact ⟨by rw [hb.cell hg]; exact h1, by rw [hb.cell hg]; exact h2, by rw [hb.frozen hg]; exact h3, by rw [hb.frozen hg]; exact h4⟩
theorem Fld.lt {g : Nat} {x y : ByteArray} {w : World} (h : Fld g x y w) : g < w.heap.size := by
  have h1 := h.1
  rcases Nat.lt_or_ge g w.heap.size with q | q
  · exact q
  · simp [World.cell?, Array.getElem?_eq_none q] at h1
theorem Fld.more {g : Nat} {x y : ByteArray} {w : World} (h : Fld g x y w) (o : Obj) : Fld g x y (w.alloc o) := h.below (below_new w o) h.lt
theorem Fld.drew {g : Nat} {x y : ByteArray} {w : World} (h : Fld g x y w) : Fld g x y w.drew := h.below (Below.refl _ _).drew h.lt
theorem Fld.drewN {g n : Nat} {x y : ByteArray} {w : World} (h : Fld g x y w) : Fld g x y (w.drewN n) := h.below (below_drewN _ _) h.lt
theorem below_set2 {w w1 : World} (h : Below w.heap.size w w1) (x y : Value) : Below w.heap.size w ((w1.setCell ⟨w.heap.size, 0, none⟩ x).setCell ⟨w.heap.size, 1, none⟩ y) :=
  (h.setCell (p := ⟨w.heap.size, 0, none⟩) (Nat.le_refl _) x).setCell (p := ⟨w.heap.size, 1, none⟩) (Nat.le_refl _) y
theorem small_max {s : ByteArray} (h : Box (s.size ≤ 65536)) : Box (s.size ≤ maxLen) := box (by have := h.out; unfold maxLen; omega)
end
section
open Go.RowKit
theorem nil_of_empty {v : ByteArray} (h : v.toList.isEmpty = true) : v.data.toList = [] := by
  rw [toList_data] at h; exact List.isEmpty_iff.mp h
theorem ne_of_empty {v : ByteArray} (h : v.toList.isEmpty = false) : v.data.toList ≠ [] := by
  rw [toList_data] at h; intro e; rw [e] at h; cases h
theorem sizeL_of (v : ByteArray) : v.data.toList.length = v.size := by simp
theorem formattedBytes_any (n v : ByteArray) (w : World) (hn : n.size ≤ 65536) (hv : v.size ≤ 65536) :
    Calls Try.prog 64 #[.agg #[.string n, .string v]] w fun e w' => e = .returned (.int .i64 (lineN n.data.toList v.data.toList)) ∧ Below w.heap.size w w' := by
  go_enter Try.func64, Try.ntmps64
  go_wp2
  · have h : v.toList.isEmpty = true := by assumption
    go_ret
    refine ⟨ret_int ?_, below_new _ _⟩
    unfold lineN; rw [if_pos (nil_of_empty h), sizeL_of]; push_cast; rfl
  · have h : v.toList.isEmpty = false := by assumption
    go_ret
    refine ⟨ret_int ?_, below_new _ _⟩
    unfold lineN; rw [if_neg (ne_of_empty h), sizeL_of, sizeL_of]; push_cast; omega
theorem tok_q {s : ByteArray} {w : World} {b : Bool} (hs : Box (s.size ≤ maxLen)) (h : Box (tokL s.data.toList = b)) : Calls Try.prog 54 #[.string s] w fun e w' => e = .returned (.bool b) ∧ w' = w :=
  (Token_any s w hs.out).mono fun e w' ⟨h1, h2⟩ => ⟨by rw [h1, h.out], h2.symm⟩
theorem text_q {s : ByteArray} {w : World} {b : Bool} (hs : Box (s.size ≤ maxLen)) (h : Box (textL s.data.toList = b)) : Calls Try.prog 82 #[.string s] w fun e w' => e = .returned (.bool b) ∧ w' = w :=
  (Text_any s w hs.out).mono fun e w' ⟨h1, h2⟩ => ⟨by rw [h1, h.out], h2.symm⟩
theorem trim_q {s : ByteArray} {w : World} (hs : Box (s.size ≤ maxLen)) : Calls Try.prog 62 #[.string s] w fun e w' => e = .returned (.string (bs (trimL s.data.toList))) ∧ w' = w :=
  (Trim_any s w hs.out).mono fun e w' ⟨h1, h2⟩ => ⟨h1, h2.symm⟩
theorem isWellFormed_tok (n v : ByteArray) (w : World) (N : Box (n.size ≤ maxLen)) (V : Box (v.size ≤ maxLen)) (H1 : Box (tokL n.data.toList = false)) :
    Calls Try.prog 63 #[.agg #[.string n, .string v]] w fun e w' => e = .returned (.bool (wellL n.data.toList v.data.toList)) ∧ Below w.heap.size w w' := by
  go_enter Try.func63, Try.ntmps63
  go_wp2_with fail
  go_quiet ((go_at_call 54; exact Calls.quiet_of_same (tok_q N H1)))
  go_wp2
  go_ret
  exact ⟨by unfold wellL; rw [H1.out]; rfl, below_new1 _ _ _⟩
theorem isWellFormed_text (n v : ByteArray) (w : World) (N : Box (n.size ≤ maxLen)) (V : Box (v.size ≤ maxLen)) (H1 : Box (tokL n.data.toList = true)) (H2 : Box (textL v.data.toList = false)) :
    Calls Try.prog 63 #[.agg #[.string n, .string v]] w fun e w' => e = .returned (.bool (wellL n.data.toList v.data.toList)) ∧ Below w.heap.size w w' := by
  go_enter Try.func63, Try.ntmps63
  go_wp2_with fail
  go_quiet (first | (go_at_call 54; exact Calls.quiet_of_same (tok_q N H1)) | (go_at_call 82; exact Calls.quiet_of_same (text_q V H2)))
  go_wp2
  go_ret
  exact ⟨by unfold wellL; rw [H1.out, H2.out]; rfl, below_new1 _ _ _⟩
theorem isWellFormed_trim (n v : ByteArray) (w : World) (N : Box (n.size ≤ maxLen)) (V : Box (v.size ≤ maxLen)) (H1 : Box (tokL n.data.toList = true)) (H2 : Box (textL v.data.toList = true)) :
    Calls Try.prog 63 #[.agg #[.string n, .string v]] w fun e w' => e = .returned (.bool (wellL n.data.toList v.data.toList)) ∧ Below w.heap.size w w' := by
  go_enter Try.func63, Try.ntmps63
  go_wp2_with fail
  go_quiet (first | (go_at_call 54; exact Calls.quiet_of_same (tok_q N H1)) | (go_at_call 82; exact Calls.quiet_of_same (text_q V H2)) | (go_at_call 62; exact Calls.quiet_of_same (trim_q V)))
  go_wp2
  go_ret
  refine ⟨ret_bool ?_, below_new1 _ _ _⟩
  show ((bs (trimL v.data.toList)).toList == v.toList) = _
  unfold wellL; rw [H1.out, H2.out, toList_bs, toList_data]; rfl
theorem isWellFormed_any (n v : ByteArray) (w : World) (N : Box (n.size ≤ maxLen)) (V : Box (v.size ≤ maxLen)) :
    Calls Try.prog 63 #[.agg #[.string n, .string v]] w fun e w' => e = .returned (.bool (wellL n.data.toList v.data.toList)) ∧ Below w.heap.size w w' := by
  rcases h1 : tokL n.data.toList with _ | _
  · exact isWellFormed_tok n v w N V (box h1)
  · rcases h2 : textL v.data.toList with _ | _
    · exact isWellFormed_text n v w N V (box h1) (box h2)
    · exact isWellFormed_trim n v w N V (box h1) (box h2)
theorem line_nil {n v : ByteArray} (h : v.toList.isEmpty = true) : n ++ ⟨#[58]⟩ = bs (lineL n.data.toList v.data.toList) := by
  unfold lineL; rw [if_pos (nil_of_empty h)]
  apply ByteArray.ext
  apply Array.toList_inj.mp
  simp [ByteArray.data_append, bs]
theorem line_cons {n v : ByteArray} (h : v.toList.isEmpty = false) : n ++ ⟨#[58, 32]⟩ ++ v = bs (lineL n.data.toList v.data.toList) := by
  unfold lineL; rw [if_neg (ne_of_empty h)]
  apply ByteArray.ext
  simp [ByteArray.data_append, bs]
theorem ret_string {a b : ByteArray} (h : a = b) : Ending.returned (.string a) = .returned (.string b) := by rw [h]
theorem rform_any (n v : ByteArray) (w : World) (N : Box (n.size ≤ 65536)) (V : Box (v.size ≤ 65536)) :
    Calls Try.prog 26 #[.agg #[.string n, .string v]] w fun e w' => e = .returned (.string (bs (lineL n.data.toList v.data.toList))) ∧ Below w.heap.size w w' := by
  have hn := N.out
  have hv := V.out
  go_enter Try.func26, Try.ntmps26
  go_wp2
  · have h : v.toList.isEmpty = true := by assumption
    go_ret
    exact ⟨ret_string (line_nil h), below_new _ _⟩
  · have h : v.toList.isEmpty = false := by assumption
    go_ret
    exact ⟨ret_string (line_cons h), below_new _ _⟩
theorem rtok_q {s : ByteArray} {w : World} {b : Bool} (hs : Box (s.size ≤ maxLen)) (h : Box (tokL s.data.toList = b)) : Calls Try.prog 23 #[.string s] w fun e w' => e = .returned (.bool b) ∧ w' = w :=
  (rToken_any s w hs.out).mono fun e w' ⟨h1, h2⟩ => ⟨by rw [h1, h.out], h2.symm⟩
theorem rtext_q {s : ByteArray} {w : World} {b : Bool} (hs : Box (s.size ≤ maxLen)) (h : Box (textL s.data.toList = b)) : Calls Try.prog 24 #[.string s] w fun e w' => e = .returned (.bool b) ∧ w' = w :=
  (rText_any s w hs.out).mono fun e w' ⟨h1, h2⟩ => ⟨by rw [h1, h.out], h2.symm⟩
theorem rtrim_q {s : ByteArray} {w : World} (hs : Box (s.size ≤ maxLen)) : Calls Try.prog 25 #[.string s] w fun e w' => e = .returned (.string (bs (trimL s.data.toList))) ∧ w' = w :=
  (rTrim_any s w hs.out).mono fun e w' ⟨h1, h2⟩ => ⟨h1, h2.symm⟩
theorem rValid_tok (n v : ByteArray) (w : World) (N : Box (n.size ≤ 65536)) (V : Box (v.size ≤ 65536)) (H1 : Box (tokL n.data.toList = false)) :
    Calls Try.prog 13 #[.agg #[.string n, .string v]] w fun e w' => e = .returned (.bool (validL n.data.toList v.data.toList)) ∧ Below w.heap.size w w' := by
  go_enter Try.func13, Try.ntmps13
  go_wp2_with fail
  go_quiet ((go_at_call 23; exact Calls.quiet_of_same (rtok_q (small_max N) H1)))
  go_wp2
  go_ret
  exact ⟨by unfold validL wellL; rw [H1.out]; rfl, below_new1 _ _ _⟩
theorem rValid_text (n v : ByteArray) (w : World) (N : Box (n.size ≤ 65536)) (V : Box (v.size ≤ 65536)) (H1 : Box (tokL n.data.toList = true)) (H2 : Box (textL v.data.toList = false)) :
    Calls Try.prog 13 #[.agg #[.string n, .string v]] w fun e w' => e = .returned (.bool (validL n.data.toList v.data.toList)) ∧ Below w.heap.size w w' := by
  go_enter Try.func13, Try.ntmps13
  go_wp2_with fail
  go_quiet (first | (go_at_call 23; exact Calls.quiet_of_same (rtok_q (small_max N) H1)) | (go_at_call 24; exact Calls.quiet_of_same (rtext_q (small_max V) H2)))
  go_wp2
  go_ret
  exact ⟨by unfold validL wellL; rw [H1.out, H2.out]; rfl, below_new1 _ _ _⟩
theorem rValid_trim (n v : ByteArray) (w : World) (N : Box (n.size ≤ 65536)) (V : Box (v.size ≤ 65536)) (H1 : Box (tokL n.data.toList = true)) (H2 : Box (textL v.data.toList = true)) (h3 : ((bs (trimL v.data.toList)).toList == v.toList) = false) :
    Calls Try.prog 13 #[.agg #[.string n, .string v]] w fun e w' => e = .returned (.bool (validL n.data.toList v.data.toList)) ∧ Below w.heap.size w w' := by
  go_enter Try.func13, Try.ntmps13
  go_wp2_with fail
  go_quiet (first | (go_at_call 23; exact Calls.quiet_of_same (rtok_q (small_max N) H1)) | (go_at_call 24; exact Calls.quiet_of_same (rtext_q (small_max V) H2)) | (go_at_call 25; exact Calls.quiet_of_same (rtrim_q (small_max V))))
  go_wp2
  go_ret
  refine ⟨ret_bool ?_, below_new1 _ _ _⟩
  rw [toList_bs, toList_data] at h3
  unfold validL wellL; rw [H1.out, H2.out, h3]; rfl
theorem rValid_all (n v : ByteArray) (w : World) (N : Box (n.size ≤ 65536)) (V : Box (v.size ≤ 65536)) (H1 : Box (tokL n.data.toList = true)) (H2 : Box (textL v.data.toList = true)) (h3 : ((bs (trimL v.data.toList)).toList == v.toList) = true) :
    Calls Try.prog 13 #[.agg #[.string n, .string v]] w fun e w' => e = .returned (.bool (validL n.data.toList v.data.toList)) ∧ Below w.heap.size w w' := by
  go_enter Try.func13, Try.ntmps13
  go_wp2_with fail
  go_region_held3 (fun w' => w'.cell? ⟨w.heap.size, 0, none⟩ = some (.string n) ∧ w'.cell? ⟨w.heap.size, 1, none⟩ = some (.string v)) (first | go_keep | (refine ⟨?_, ?_⟩ <;> (rw [hb1.cell (by simp)]; first | assumption | (simp; done))))
    (first | (go_at_call 23; refine (rtok_q (small_max N) H1).mono ?_; rintro e w1 ⟨rfl, rfl⟩) | (go_at_call 24; refine (rtext_q (small_max V) H2).mono ?_; rintro e w1 ⟨rfl, rfl⟩) | (go_at_call 25; refine (rtrim_q (small_max V)).mono ?_; rintro e w1 ⟨rfl, rfl⟩) | (go_at_call 26; refine (rform_any _ _ _ N V).mono ?_; rintro e w1 ⟨rfl, hb1⟩))
  go_wp2
  go_ret
  refine ⟨ret_bool ?_, ?_⟩
  · rw [bs_size, lineN_eq]
    rw [toList_bs, toList_data] at h3
    unfold validL wellL; rw [H1.out, H2.out, h3]; simp only [Bool.true_and, Bool.and_true]
    exact decide_eq_decide.mpr (by omega)
  · exact (below_new1 _ _ _).trans (hb1.mono (below_new1 _ _ _).size)
theorem rValidField_any (n v : ByteArray) (w : World) (N : Box (n.size ≤ 65536)) (V : Box (v.size ≤ 65536)) :
    Calls Try.prog 13 #[.agg #[.string n, .string v]] w fun e w' => e = .returned (.bool (validL n.data.toList v.data.toList)) ∧ Below w.heap.size w w' := by
  rcases h1 : tokL n.data.toList with _ | _
  · exact rValid_tok n v w N V (box h1)
  · rcases h2 : textL v.data.toList with _ | _
    · exact rValid_text n v w N V (box h1) (box h2)
    · rcases h3 : ((bs (trimL v.data.toList)).toList == v.toList) with _ | _
      · exact rValid_trim n v w N V (box h1) (box h2) h3
      · exact rValid_all n v w N V (box h1) (box h2) h3
end
end Go.Proofs.Ytjabcfabenobiaa.Asc
