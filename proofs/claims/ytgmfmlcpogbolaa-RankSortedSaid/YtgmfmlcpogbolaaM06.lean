/- Merged texts: AscTrim LisRef2 AscUn AscUnq ParRef MedRef StaVer. -/
import Derived.Test.YtgmfmlcpogbolaaM01
import Derived.Test.YtgmfmlcpogbolaaM02
import Derived.Test.YtgmfmlcpogbolaaM03
import Derived.Test.YtgmfmlcpogbolaaM04
import Derived.Test.YtgmfmlcpogbolaaM05
import Derived.Deep.RegionHeld3
import Derived.Lib.Hide
import Derived.LoopTactic
set_option linter.unusedVariables false
set_option linter.unusedSimpArgs false
set_option maxRecDepth 100000
namespace Go.Proofs.Ytgmfmlcpogbolaa.Asc
section
open Go.RowKit
theorem ret_str {a b : ByteArray} (h : a = b) : Ending.returned (.string a) = .returned (.string b) := by rw [h]
theorem str_ext {a : ByteArray} {l : List UInt8} (h : a.data.toList = l) : a = ⟨l.toArray⟩ := by
  subst h; rfl
theorem extract_list (s : ByteArray) (i j : Nat) : (s.extract i j).data.toList = (s.data.toList.take j).drop i := by
  rw [ByteArray.data_extract, Array.toList_extract, List.extract_eq_take_drop, List.drop_take]
theorem blank_at {s : ByteArray} {k : Nat} {b : Bool} (hk : k < s.size) (h : blankB (s.data.toList.getD k 0) = b) : blankI (s[k].toNat) = b := by
  rw [getD_at s k hk] at h; exact h
theorem blank_drop {t : ByteArray} {l : List UInt8} {k : Nat} {b : Bool} (ht : t.data.toList = l.drop k) (h0 : 0 < t.size) (h : blankB (l.getD k 0) = b) : blankI (t[0].toNat) = b := by
  refine blank_at (s := t) (k := 0) h0 ?_
  rw [ht]; rw [← h]; simp [List.getD_eq_getElem?_getD, List.getElem?_drop]
theorem blank_last {t : ByteArray} {l : List UInt8} {k e : Nat} {b : Bool} (ht : t.data.toList = (l.take e).drop k) (hl : t.size - 1 < t.size) (hsz : t.size = e - k) (h : blankB (l.getD (e - 1) 0) = b) : blankI (t[t.size - 1].toNat) = b := by
  refine blank_at (s := t) (k := t.size - 1) hl ?_
  rw [ht, ← h]
  simp only [List.getD_eq_getElem?_getD, List.getElem?_drop]
  rw [List.getElem?_take_of_lt (by omega), show k + (t.size - 1) = e - 1 by omega]
theorem list_size {t : ByteArray} {l : List UInt8} (h : t.data.toList = l) : t.size = l.length := by subst h; simp
set_option maxHeartbeats 800000 in
theorem Trim_any (s : ByteArray) (w : World) (hs : s.size ≤ maxLen) :
    Calls Try.prog 75 #[.string s] w fun e w' => e = .returned (.string ⟨(trimL s.data.toList).toArray⟩) ∧ w = w' := by
  unfold maxLen at hs
  obtain ⟨k0, e0, ht⟩ := ex_trim s.data.toList
  have HR : Hid (s.extract k0 e0 = ⟨(trimL s.data.toList).toArray⟩) := Lib.hid (str_ext (by rw [extract_list, trim_at ht]))
  obtain ⟨h1, h2, h3, h4, h5, h6⟩ := ht
  have hz : s.data.toList.length = s.size := by simp
  rw [hz] at h2
  have H3 := Lib.hid h3
  have H4 := Lib.hid h4
  have H5 := Lib.hid h5
  have H6 := Lib.hid h6
  clear h3 h4 h5 h6 hz
  go_enter Try.func75, Try.ntmps75
  go_wp2
  go_loop [3] (fun i => ∃ k : Nat, k ≤ k0 ∧ i = .int .i64 k) (fun i => s.size - (intOf i).toNat)
  case atStart => exact ⟨0, Nat.zero_le _, rfl⟩
  case round =>
    obtain ⟨k, hk, rfl⟩ := hrel
    by_cases hlt : k < k0
    · have hks : k < s.size := by omega
      have hb := byte_bd s k hks
      have hbl := blank_at hks (H3.out k hlt)
      go_wp2_with (go_at_call 84; refine (isBlank_any _ _).mono ?_; rintro e w' ⟨rfl, rfl⟩)
      go_round
      case rel => exact ⟨k + 1, by omega, by go_num⟩
      case measure => simp [intOf]; omega
    · obtain rfl : k = k0 := by omega
      by_cases hks : k < s.size
      · have hbl := blank_at hks (H5.out (by simpa using hks))
        go_wp2_with (go_at_call 84; refine (isBlank_any _ _).mono ?_; rintro e w' ⟨rfl, rfl⟩)
        go_loop [4] (fun j => ∃ e : Nat, e0 ≤ e ∧ e ≤ s.size ∧ j = .int .i64 e) (fun j => (intOf j).toNat)
        case atStart => exact ⟨s.size, h2, Nat.le_refl _, rfl⟩
        case round =>
          obtain ⟨e, he, hes, rfl⟩ := hrel
          by_cases hle : e0 < e
          · have hq : e - 1 < s.size := by omega
            have hbe := blank_at hq (H4.out (e - 1) (by omega) (by simpa using hq))
            go_wp2_with (go_at_call 84; refine (isBlank_any _ _).mono ?_; rintro e w' ⟨rfl, rfl⟩)
            go_round
            case rel => exact ⟨e - 1, by omega, by omega, by go_num⟩
            case measure => simp [intOf]; omega
          · obtain rfl : e = e0 := by omega
            by_cases hke : k < e
            · have hq : e - 1 < s.size := by omega
              have hbe := blank_at hq (H6.out hke)
              go_wp2_with (go_at_call 84; refine (isBlank_any _ _).mono ?_; rintro e w' ⟨rfl, rfl⟩)
              go_ret
              exact ⟨ret_str HR.out, rfl⟩
            · go_wp2
              go_ret
              exact ⟨ret_str HR.out, rfl⟩
      · go_wp2
        go_loop [4] (fun j => ∃ e : Nat, e0 ≤ e ∧ e ≤ s.size ∧ j = .int .i64 e) (fun j => (intOf j).toNat)
        case atStart => exact ⟨s.size, h2, Nat.le_refl _, rfl⟩
        case round =>
          obtain ⟨e, he, hes, rfl⟩ := hrel
          by_cases hle : e0 < e
          · exfalso; omega
          · obtain rfl : e = e0 := by omega
            by_cases hke : k < e
            · exfalso; omega
            · go_wp2
              go_ret
              exact ⟨ret_str HR.out, rfl⟩
set_option maxHeartbeats 800000 in
theorem rTrim_any (s : ByteArray) (w : World) (hs : s.size ≤ maxLen) :
    Calls Try.prog 55 #[.string s] w fun e w' => e = .returned (.string ⟨(trimL s.data.toList).toArray⟩) ∧ w = w' := by
  unfold maxLen at hs
  obtain ⟨k0, e0, ht⟩ := ex_trim s.data.toList
  have HR := Lib.hid (trim_at ht)
  obtain ⟨h1, h2, h3, h4, h5, h6⟩ := ht
  have hz : s.data.toList.length = s.size := by simp
  rw [hz] at h2
  have H3 := Lib.hid h3
  have H4 := Lib.hid h4
  have H5 := Lib.hid h5
  have H6 := Lib.hid h6
  clear h3 h4 h5 h6 hz
  go_enter Try.func55, Try.ntmps55
  go_wp2
  go_loop [0] (fun i => ∃ (t : ByteArray) (k : Nat), k ≤ k0 ∧ i = .string t ∧ Hid (t.data.toList = s.data.toList.drop k) ∧ Hid (t.size = s.size - k)) (fun i => match i with | .string t => t.size | _ => 0)
  case atStart => exact ⟨s, 0, Nat.zero_le _, rfl, Lib.hid (by simp), Lib.hid (by simp)⟩
  case round =>
    obtain ⟨t, k, hk, rfl, HT, HZ⟩ := hrel
    by_cases hlt : k < k0
    · have h0 : 0 < t.size := by have := HZ.out; omega
      have hle : t.size ≤ s.size := by have := HZ.out; omega
      have hbl := blank_drop HT.out h0 (H3.out k hlt)
      have hb := byte_bd t 0 h0
      go_wp2_with (go_at_call 72; refine (rblank_any _ _).mono ?_; rintro e w' ⟨rfl, rfl⟩)
      go_round
      case rel =>
        have e1 : (t.extract 1 t.size).data.toList = s.data.toList.drop (k + 1) := by
          rw [extract_list, List.take_of_length_le (by simp), HT.out, List.drop_drop]
        exact ⟨_, k + 1, by omega, rfl, Lib.hid e1, Lib.hid (by rw [list_size e1]; simp)⟩
      case measure => simp; omega
    · obtain rfl : k = k0 := by omega
      by_cases hks : k < s.size
      · have h0 : 0 < t.size := by have := HZ.out; omega
        have hle : t.size ≤ s.size := by have := HZ.out; omega
        have hbl := blank_drop HT.out h0 (H5.out (by simpa using hks))
        go_wp2_with (go_at_call 72; refine (rblank_any _ _).mono ?_; rintro e w' ⟨rfl, rfl⟩)
        go_loop [0] (fun i => ∃ (t : ByteArray) (e : Nat), e0 ≤ e ∧ e ≤ s.size ∧ i = .string t ∧ Hid (t.data.toList = (s.data.toList.take e).drop k) ∧ Hid (t.size = e - k)) (fun i => match i with | .string t => t.size | _ => 0)
        case atStart => exact ⟨t, s.size, h2, Nat.le_refl _, rfl, Lib.hid (by rw [List.take_of_length_le (by simp)]; exact HT.out), HZ⟩
        case round =>
          obtain ⟨t, e, he, hes, rfl, HT, HZ⟩ := hrel
          by_cases hle : e0 < e
          · have h0 : 0 < t.size := by have := HZ.out; omega
            have hl : t.size - 1 < t.size := by omega
            have hsz : t.size ≤ s.size := by have := HZ.out; omega
            have hbl := blank_last HT.out hl HZ.out (H4.out (e - 1) (by omega) (by simp; omega))
            have e1 : (t.extract 0 (t.size - 1)).data.toList = (s.data.toList.take (e - 1)).drop k := by
              rw [extract_list, HT.out, List.drop_zero, HZ.out, show e - k - 1 = e - 1 - k by omega, ← List.drop_take, List.take_take, Nat.min_eq_left (by omega)]
            have E1 := Lib.hid e1
            have E2 : Hid ((t.extract 0 (t.size - 1)).size = e - 1 - k) := Lib.hid (by rw [list_size e1]; simp; omega)
            clear e1
            go_wp2_with (go_at_call 72; refine (rblank_any _ _).mono ?_; rintro e w' ⟨rfl, rfl⟩)
            go_round
            case rel => exact ⟨_, e - 1, by omega, by omega, rfl, E1, E2⟩
            case measure => simp; omega
          · obtain rfl : e = e0 := by omega
            have hsz : t.size ≤ s.size := by have := HZ.out; omega
            have HF : Hid (t = ⟨(trimL s.data.toList).toArray⟩) := Lib.hid (str_ext (by rw [HT.out, HR.out]))
            by_cases hke : k < e
            · have h0 : 0 < t.size := by have := HZ.out; omega
              have hl : t.size - 1 < t.size := by omega
              have hbl := blank_last HT.out hl HZ.out (H6.out hke)
              go_wp2_with (go_at_call 72; refine (rblank_any _ _).mono ?_; rintro e w' ⟨rfl, rfl⟩)
              go_ret
              exact ⟨ret_str HF.out, rfl⟩
            · have h0 : t.size = 0 := by have := HZ.out; omega
              go_wp2
              go_ret
              exact ⟨ret_str HF.out, rfl⟩
      · have h0 : t.size = 0 := by have := HZ.out; omega
        go_wp2
        go_loop [0] (fun i => ∃ (t : ByteArray) (e : Nat), e0 ≤ e ∧ e ≤ s.size ∧ i = .string t ∧ Hid (t.data.toList = (s.data.toList.take e).drop k) ∧ Hid (t.size = e - k)) (fun i => match i with | .string t => t.size | _ => 0)
        case atStart => exact ⟨t, s.size, h2, Nat.le_refl _, rfl, Lib.hid (by rw [List.take_of_length_le (by simp)]; exact HT.out), HZ⟩
        case round =>
          obtain ⟨t, e, he, hes, rfl, HT, HZ⟩ := hrel
          by_cases hle : e0 < e
          · exfalso; omega
          · obtain rfl : e = e0 := by omega
            have hsz : t.size ≤ s.size := by have := HZ.out; omega
            have HF : Hid (t = ⟨(trimL s.data.toList).toArray⟩) := Lib.hid (str_ext (by rw [HT.out, HR.out]))
            by_cases hke : k < e
            · exfalso; omega
            · have h0 : t.size = 0 := by have := HZ.out; omega
              go_wp2
              go_ret
              exact ⟨ret_str HF.out, rfl⟩
end
section
open Go.RowKit
theorem rTrim_is {s x : ByteArray} {w : World} (hs : s.size ≤ maxLen) (h : Box (bs (trimL s.data.toList) = x)) :
    Calls Try.prog 55 #[.string s] w fun e w' => e = .returned (.string x) ∧ w = w' :=
  (rTrim_any s w hs).mono fun e w' ⟨h1, h2⟩ => ⟨by rw [h1, ← h.out]; rfl, by first | exact h2 | exact h2.symm⟩
end
section
open Go.RowKit
/-- the two results of a function that returns a string and whether there is one -/
def optV : Option (List UInt8) → Value
  | none => .tuple #[.string ⟨#[]⟩, .bool false]
  | some l => .tuple #[.string ⟨l.toArray⟩, .bool true]
theorem unescape_any (s : ByteArray) (w : World) (hs : s.size ≤ 4294967296) :
    Calls Try.prog 94 #[.string s] w fun e w' => e = .returned (optV (unescL s.data.toList)) ∧ Below w.heap.size w w' := by
  obtain ⟨i0, hi0, hz0, hz1, hz2⟩ := info_parts info_u8
  have hmk := fun (w : World) => run_make (P := Try.prog) w 65 5 i0 _ Try.underlying65 hi0 hz0 .i64 .i64 0 s.size (by omega) (by omega) (by rw [hz2]; omega) (by omega)
  simp only [Int.toNat_natCast, hz1, Nat.mul_one] at hmk
  go_enter Try.func94, Try.ntmps94
  go_wp2
  have hO0 : Own (w.alloc (.cells (madeCells #[.int .u8 0] s.size) 5)) w.heap.size (.slice (some ⟨w.heap.size, 0, none⟩) 0 s.size) [] :=
    ⟨rfl, .inr ⟨_, _, _, rfl, Nat.le_refl _, heap_alloc_new w _, Nat.zero_le _, by unfold maxLen; omega, by simp [size_madeCells], rfl⟩⟩
  go_loopw [4, 5] (fun v i wr => ∃ (k : Nat) (acc : List UInt8), k ≤ s.size ∧ i = .int .i64 k ∧ Own wr w.heap.size v acc ∧ UnAt s.data.toList k acc ∧ Below w.heap.size w wr) (fun _ i _ => s.size - (intOf i).toNat)
  case atStart => exact ⟨0, [], Nat.zero_le _, rfl, hO0, UnAt.start _, (Below.refl _ _).alloc (Nat.le_refl _) _⟩
  case round =>
    obtain ⟨k, acc, hk, rfl, hO, hU, hbel⟩ := hrel
    clear hO0 hmk
    have ha := hU.1
    by_cases hlt : k < s.size
    · rcases h1 : ((s[k].toNat : Int) == 34) with _ | _
      · rcases h2 : ((s[k].toNat : Int) == 92) with _ | _
        · go_wp2_with (at_builtin; refine wpList_append_byte _ rfl (.tmp 28) (.tmp 32) rfl w.heap.size _ acc rfl (hO.alloc _) _ rfl _ s[k] rfl (by go_simp) (by omega) (by have := hbel.size; simp; omega) ?_; intro v' w1 hO1 hb1)
          go_roundw
          case rel => exact ⟨k + 1, _, by omega, by go_num, hO1, hU.plain hlt h1 h2, hbel.alloc hbel.size _ |>.trans hb1⟩
          case measure => simp [intOf]; omega
        · by_cases he : k + 1 < s.size
          · go_wp2_with (at_builtin; refine wpList_append_byte _ rfl (.tmp 28) (.tmp 32) rfl w.heap.size _ acc rfl (hO.alloc _) _ rfl _ s[k + 1] rfl (by go_simp) (by omega) (by have := hbel.size; simp; omega) ?_; intro v' w1 hO1 hb1)
            go_roundw
            case rel => exact ⟨k + 1 + 1, _, by omega, by go_num, hO1, hU.esc hlt h2 he, hbel.alloc hbel.size _ |>.trans hb1⟩
            case measure => simp [intOf]; omega
          · go_wp2
            go_ret2
            exact ⟨by rw [hU.last hlt h2 (by omega)]; rfl, hbel⟩
      · go_wp2
        go_ret2
        exact ⟨by rw [hU.quote hlt h1]; rfl, hbel⟩
    · have hst := hO.str
      go_wp2
      go_ret2
      exact ⟨by rw [hU.fin (by simp; omega)]; rfl, hbel⟩
end
section
open Go.RowKit
theorem unescape_none {s : ByteArray} {w : World} (hs : s.size ≤ 4294967296) (h : unescL s.data.toList = none) :
    Calls Try.prog 94 #[.string s] w fun e w' => e = .returned (.tuple #[.string ⟨#[]⟩, .bool false]) ∧ Below w.heap.size w w' :=
  (unescape_any s w hs).mono fun e w' ⟨he, hb⟩ => ⟨by rw [he, h]; rfl, hb⟩
theorem unescape_some {s : ByteArray} {w : World} {r : List UInt8} (hs : s.size ≤ 4294967296) (h : unescL s.data.toList = some r) :
    Calls Try.prog 94 #[.string s] w fun e w' => e = .returned (.tuple #[.string ⟨r.toArray⟩, .bool true]) ∧ Below w.heap.size w w' :=
  (unescape_any s w hs).mono fun e w' ⟨he, hb⟩ => ⟨by rw [he, h]; rfl, hb⟩
set_option maxHeartbeats 800000 in
theorem Unquote_any (s : ByteArray) (w : World) (hs : s.size ≤ 4294967296) :
    Calls Try.prog 90 #[.string s] w fun e w' => e = .returned (optV (unqL s.data.toList)) ∧ Below w.heap.size w w' := by
  by_cases h2 : s.size < 2
  · go_enter Try.func90, Try.ntmps90
    go_wp2
    go_ret2
    exact ⟨by rw [unq_short h2]; rfl, Below.refl _ _⟩
  · have hp : 0 < s.size := by omega
    have hq : s.size - 1 < s.size := by omega
    by_cases h0 : ((s[0]'hp).toNat : Int) = 34
    · rcases h1 : (((s[s.size - 1]'hq).toNat : Int) != 34) with _ | _
      · have hu := unq_in h2 hp h0 hq h1
        have HI : Hid ((s.extract 1 (s.size - 1)).size ≤ 4294967296) := Lib.hid (by rw [ByteArray.size_extract]; omega)
        have HM : Hid ((s.extract 1 (s.size - 1)).size ≤ maxLen) := Lib.hid (by have := HI.out; unfold maxLen; omega)
        have HU := Lib.hid hu
        clear hu
        go_enter Try.func90, Try.ntmps90
        go_wp2_with fail
        refine (Text_any _ _ HM.out).mono ?_; rintro e w' ⟨rfl, rfl⟩
        rcases ht : textL (s.extract 1 (s.size - 1)).data.toList with _ | _
        · have HT := Lib.hid (unqIn_not ht)
          clear ht
          go_wp2
          go_ret2
          exact ⟨by rw [HU.out, HT.out]; rfl, Below.refl _ _⟩
        · have HT := Lib.hid (unqIn_text ht)
          clear ht
          go_wp2_with fail
          rcases hr : unescL (s.extract 1 (s.size - 1)).data.toList with _ | r
          · have HR := Lib.hid hr
            clear hr
            refine (unescape_none HI.out HR.out).mono ?_; rintro e w' ⟨rfl, hb⟩
            go_wp2
            go_ret2
            exact ⟨by rw [HU.out, HT.out, HR.out]; rfl, hb⟩
          · have HR := Lib.hid hr
            clear hr
            refine (unescape_some HI.out HR.out).mono ?_; rintro e w' ⟨rfl, hb⟩
            go_wp2
            go_ret2
            exact ⟨by rw [HU.out, HT.out, HR.out]; rfl, hb⟩
      · go_enter Try.func90, Try.ntmps90
        go_wp2
        go_ret2
        exact ⟨by rw [unq_last hq h1]; rfl, Below.refl _ _⟩
    · go_enter Try.func90, Try.ntmps90
      go_wp2
      go_ret2
      exact ⟨by rw [unq_head hp h0]; rfl, Below.refl _ _⟩
set_option maxHeartbeats 800000 in
theorem rUnquote_any (s : ByteArray) (w : World) (hs : s.size ≤ 4294967296) :
    Calls Try.prog 56 #[.string s] w fun e w' => e = .returned (optV (unqL s.data.toList)) ∧ Below w.heap.size w w' := by
  by_cases h2 : s.size < 2
  · go_enter Try.func56, Try.ntmps56
    go_wp2
    go_ret2
    exact ⟨by rw [unq_short h2]; rfl, Below.refl _ _⟩
  · have hp : 0 < s.size := by omega
    have hq : s.size - 1 < s.size := by omega
    by_cases h0 : ((s[0]'hp).toNat : Int) = 34
    · rcases h1 : (((s[s.size - 1]'hq).toNat : Int) != 34) with _ | _
      · have hu := unq_in h2 hp h0 hq h1
        have hin : (s.extract 1 (s.size - 1)).size ≤ 4294967296 := by rw [ByteArray.size_extract]; omega
        have HU := Lib.hid hu
        clear hu
        go_enter Try.func56, Try.ntmps56
        go_wp2_with fail
        clear h0 h1 h2 hp hq
        generalize hg : s.extract 1 (s.size - 1) = t at *
        have HG := Lib.hid hg
        clear hg
        go_loopw [4, 5] (fun v i wr => ∃ (k : Nat) (acc : List UInt8), k ≤ t.size ∧ i = .int .i64 k ∧ Own wr w.heap.size v acc ∧ UnAt t.data.toList k acc ∧ allI textI (t.data.toList.take k) = true ∧ Below w.heap.size w wr) (fun _ i _ => t.size - (intOf i).toNat)
        case atStart => exact ⟨0, [], Nat.zero_le _, rfl, Own.nil _ _, UnAt.start _, rfl, Below.refl _ _⟩
        case round =>
          obtain ⟨k, acc, hk, rfl, hO, hU, hT, hbel⟩ := hrel
          have ha := hU.1
          by_cases hlt : k < t.size
          · rcases h1 : ((t[k].toNat : Int) == 34) with _ | _
            · rcases h2 : ((t[k].toNat : Int) == 92) with _ | _
              · have hb := byte_bd t k hlt
                rcases hp : textI (t[k].toNat) with _ | _
                · go_wp2_with (go_at_call 73; refine (textByte_any _ _ hb.1 hb.2).mono ?_; rintro e w' ⟨rfl, rfl⟩)
                  go_ret2
                  exact ⟨by rw [HU.out, unqIn_not (textL_not hlt hp)]; rfl, hbel⟩
                · go_wp2_with (first | (go_at_call 73; refine (textByte_any _ _ hb.1 hb.2).mono ?_; rintro e w' ⟨rfl, rfl⟩) | (at_builtin; refine wpList_append_byte _ rfl _ _ rfl w.heap.size _ acc rfl (hO.alloc _) _ rfl _ t[k] rfl (by go_simp) (by omega) (by have := hbel.size; simp; omega) ?_; intro v' w1 hO1 hb1))
                  go_roundw
                  case rel => exact ⟨k + 1, _, by omega, by go_num, hO1, hU.plain hlt h1 h2, all_more hT hlt hp, hbel.alloc hbel.size _ |>.trans hb1⟩
                  case measure => simp [intOf]; omega
              · by_cases he : k + 1 < t.size
                · have hb := byte_bd t (k + 1) he
                  rcases hp : textI (t[k + 1].toNat) with _ | _
                  · go_wp2_with (go_at_call 73; refine (textByte_any _ _ hb.1 hb.2).mono ?_; rintro e w' ⟨rfl, rfl⟩)
                    go_ret2
                    exact ⟨by rw [HU.out, unqIn_not (textL_not he hp)]; rfl, hbel⟩
                  · have h92 : textI (t[k].toNat) = true := by have := eq_of_beq h2; rw [this]; rfl
                    have HA := Lib.hid (all_more (all_more hT hlt h92) he hp)
                    clear h92
                    go_wp2_with (first | (go_at_call 73; refine (textByte_any _ _ hb.1 hb.2).mono ?_; rintro e w' ⟨rfl, rfl⟩) | (at_builtin; refine wpList_append_byte _ rfl _ _ rfl w.heap.size _ acc rfl (hO.alloc _) _ rfl _ t[k + 1] rfl (by go_simp) (by omega) (by have := hbel.size; simp; omega) ?_; intro v' w1 hO1 hb1))
                    go_roundw
                    case rel => exact ⟨k + 1 + 1, _, by omega, by go_num, hO1, hU.esc hlt h2 he, HA.out, hbel.alloc hbel.size _ |>.trans hb1⟩
                    case measure => simp [intOf]; omega
                · go_wp2
                  go_ret2
                  exact ⟨by rw [HU.out, unqIn_none (hU.last hlt h2 (by omega))]; rfl, hbel⟩
            · go_wp2
              go_ret2
              exact ⟨by rw [HU.out, unqIn_none (hU.quote hlt h1)]; rfl, hbel⟩
          · have hst := hO.str
            go_wp2
            go_ret2
            exact ⟨by rw [HU.out, unqIn_text (textL_end hT (by omega)), hU.fin (by simp; omega)]; rfl, hbel⟩
      · go_enter Try.func56, Try.ntmps56
        go_wp2
        go_ret2
        exact ⟨by rw [unq_last hq h1]; rfl, Below.refl _ _⟩
    · go_enter Try.func56, Try.ntmps56
      go_wp2
      go_ret2
      exact ⟨by rw [unq_head hp h0]; rfl, Below.refl _ _⟩
end
section
open Go.RowKit
theorem rIndex61_is {s : ByteArray} {n : Int} {w : World} (hs : s.size ≤ maxLen) (h : Box (idxF s.data.toList 61 0 = n)) :
    Calls Try.prog 35 #[.string s, .int .u8 61, .int .i64 0] w fun e w' => e = .returned (.int .i64 n) ∧ w = w' :=
  (rIndex_any s 61 61 0 w hs (Nat.zero_le _) rfl).mono fun e w' ⟨h1, h2⟩ => ⟨by rw [h1, h.out], h2⟩
theorem rToken_is {s : ByteArray} {b : Bool} {w : World} (hs : s.size ≤ maxLen) (h : Box (tokL s.data.toList = b)) :
    Calls Try.prog 23 #[.string s] w fun e w' => e = .returned (.bool b) ∧ w = w' :=
  (rToken_any s w hs).mono fun e w' ⟨h1, h2⟩ => ⟨by rw [h1, h.out], h2⟩
theorem rUnq_is {s : ByteArray} {o : Option (List UInt8)} {w : World} (hs : s.size ≤ 4294967296) (h : Box (unqL s.data.toList = o)) :
    Calls Try.prog 56 #[.string s] w fun e w' => e = .returned (optV o) ∧ Below w.heap.size w w' :=
  (rUnquote_any s w hs).mono fun e w' ⟨h1, h2⟩ => ⟨by rw [h1, h.out], h2⟩
theorem rLower9_is {s x : ByteArray} {w : World} (hs : s.size ≤ 4294967296) (h : Box (bs (lowL s.data.toList) = x)) :
    Calls Try.prog 29 #[.string s] w fun e w' => e = .returned (.string x) ∧ Below w.heap.size w w' :=
  (rLower_any s w hs).mono fun e w' ⟨h1, h2⟩ => ⟨by rw [h1, ← h.out]; rfl, h2⟩
theorem idx_none {l : List UInt8} {c : UInt8} (h : Lib.indexByte l c = -1) : idxF l c 0 = -1 := by unfold idxF; rw [List.drop_zero, if_pos h]
theorem idx_some {l : List UInt8} {c : UInt8} {o : Nat} (h : Lib.indexByte l c = (o : Int)) : idxF l c 0 = (o : Int) := by
  unfold idxF; rw [List.drop_zero, if_neg (by omega), h]; simp
theorem idx_cases (l : List UInt8) (c : UInt8) : Lib.indexByte l c = -1 ∨ ∃ o : Nat, Lib.indexByte l c = (o : Int) ∧ o < l.length := by
  have hg := Lib.indexByte_ge l c
  by_cases h : Lib.indexByte l c = -1
  · exact .inl h
  · refine .inr ⟨(Lib.indexByte l c).toNat, by omega, ?_⟩
    exact (cut_at (l := l) (c := c) (k := (Lib.indexByte l c).toNat) (by omega)).1
theorem ext_take (x : ByteArray) (o : Nat) : (x.extract 0 o).data.toList = x.data.toList.take o := by rw [ext_bs, bs_toList, List.drop_zero]
theorem ext_drop (x : ByteArray) (o : Nat) : (x.extract o x.size).data.toList = x.data.toList.drop o := by rw [ext_bs, bs_toList, List.take_of_length_le (by simp)]
def ParRel (qs : List (List UInt8)) (B : Nat) (w : World) (v i : Value) (wr : World) : Prop :=
  ∃ (k : Nat) (acc : List F), i = .int .i64 k ∧ 1 ≤ k ∧ k ≤ qs.length ∧ acc.length ≤ k ∧ parF (qs.drop 1) [] = parF (qs.drop k) acc ∧ OwnP wr B v acc ∧ Below B w wr
def parW (w w' : World) (l : List UInt8) (e : Ending) : Prop := ∃ v, e = .returned (.tuple #[.string (parA l), v, .bool (parO l)]) ∧ OwnP w' w.heap.size v (parB l) ∧ Below w.heap.size w w'
theorem parW_none {w w' : World} {l : List UInt8} (h : parA l = ⟨#[]⟩ ∧ parB l = [] ∧ parO l = false) (hb : Below w.heap.size w w') : parW w w' l (.returned (.tuple #[.string ⟨#[]⟩, .slice none 0 0, .bool false])) := by
  obtain ⟨h1, h2, h3⟩ := h
  exact ⟨_, by rw [h1, h3], by rw [h2]; exact OwnP.nil _ _, hb⟩
set_option maxHeartbeats 4000000 in
theorem rPar_any (s : ByteArray) (w : World) (hs : s.size ≤ 65000) :
    Calls Try.prog 34 #[.string s] w fun e w' => parW w w' s.data.toList e := by
  have hz : s.data.toList.length = s.size := by simp
  obtain ⟨v0, ps, hqs⟩ := cut_first 59 s.data.toList
  obtain ⟨qs, hq⟩ : ∃ qs, qs = v0 :: ps := ⟨_, rfl⟩
  have hqs0 : 0 < qs.length := by rw [hq]; simp
  have hq0 : qs[0] = v0 := by subst hq; rfl
  have hq1 : qs.drop 1 = ps := by subst hq; rfl
  have HQ := box hqs
  rw [← hq] at hqs
  have hcnt : qs.length ≤ 65536 := by
    have := cut_count (sep := 59) s.data.toList.length false s.data.toList []
    rw [← hqs]; unfold cutL; omega
  have hsm : Box (∀ p ∈ qs, p.length ≤ 65000) := box (fun p hp => by
    rw [← hqs] at hp
    have := cut_small _ _ _ _ p hp
    simp at this; omega)
  have HCB : Box (cutsB 59 s.data.toList = qs.map bs) := box (by unfold cutsB; rw [hqs])
  have HQ0 := box hq0
  have HQ1 := box hq1
  clear hqs hz hq0 hq1 hq
  have hz0 : (bs qs[0]).size ≤ maxLen := by rw [bs_size]; have := hsm.out qs[0] (List.getElem_mem hqs0); unfold maxLen; omega
  by_cases ht : trimL v0 = []
  · have HT : Box (bs (trimL (bs qs[0]).data.toList) = ⟨#[]⟩) := box (by rw [bs_toList, HQ0.out, ht]; rfl)
    have HN := box (par_none0 HQ.out ht)
    clear ht
    go_enter Try.func34, Try.ntmps34
    go_wp2_with fail
    refine (rCut_any s 59 _ hs).mono ?_; rintro e w1 ⟨v1, rfl, hO1, hb1⟩
    rw [HCB.out] at hO1
    obtain ⟨a1, cap1, rfl, hS1, hc1⟩ := hO1.ss
    rw [List.length_map] at hc1 ⊢
    obtain ⟨q, off, rfl, c0⟩ := hS1 0 (by rw [List.length_map]; exact hqs0)
    rw [List.getElem_map, Nat.add_zero] at c0
    have B1 := box hb1
    clear hO1 hS1 hb1
    go_wp2_with fail
    refine (rTrim_is hz0 HT).mono ?_; rintro e w2 ⟨rfl, rfl⟩
    go_wp2
    go_ret3
    exact parW_none HN.out B1.out
  · obtain ⟨x0, hx0⟩ : ∃ x0, bs (trimL v0) = x0 := ⟨_, rfl⟩
    have HT : Box (bs (trimL (bs qs[0]).data.toList) = x0) := box (by rw [bs_toList, HQ0.out, hx0])
    have hxe : x0.toList.isEmpty = false := by
      rw [← hx0, toList_bs]
      cases h : trimL v0 with
      | nil => exact absurd h ht
      | cons c r => rfl
    have HX0 := box hx0
    have HNE := box ht
    clear hx0 ht
    go_enter Try.func34, Try.ntmps34
    go_wp2_with fail
    refine (rCut_any s 59 _ hs).mono ?_; rintro e w1 ⟨v1, rfl, hO1, hb1⟩
    rw [HCB.out] at hO1
    obtain ⟨a1, cap1, rfl, hS1, hc1⟩ := hO1.ss
    rw [List.length_map] at hc1 ⊢
    obtain ⟨q, off, rfl, c0⟩ := hS1 0 (by rw [List.length_map]; exact hqs0)
    rw [List.getElem_map, Nat.add_zero] at c0
    have S1 := box hS1
    have B1 := box hb1
    have hB1 := hb1.size
    clear hO1 hS1 hb1
    go_wp2_with fail
    refine (rTrim_is hz0 HT).mono ?_; rintro e w2 ⟨rfl, rfl⟩
    clear c0
    go_wp2
    go_loopw [7, 8] (fun v i wr => ParRel qs w1.heap.size w1 v i wr) (fun _ i _ => qs.length - (intOf i).toNat)
    case atStart => exact ⟨1, [], rfl, Nat.le_refl _, hqs0, Nat.zero_le _, rfl, OwnP.nil _ _, Below.refl _ _⟩
    case round =>
      obtain ⟨k, acc, rfl, hk1, hk, hak, hP, hO, hbel⟩ := hrel
      rw [HQ1.out] at hP
      have HP := box hP
      obtain ⟨av, cv, rfl, _, _⟩ := hO.fs
      have O0 := box hO
      have BL := box hbel
      have hBw := hbel.size
      clear hO hbel hP
      by_cases hlt : k < qs.length
      · have hmem := List.getElem_mem hlt
        obtain ⟨q', off', e, c1⟩ := (S1.out.below BL.out) k (by rw [List.length_map]; exact hlt)
        rw [List.getElem_map] at c1
        cases e
        have hpz : (bs qs[k]).size ≤ maxLen := by rw [bs_size]; have := hsm.out qs[k] hmem; unfold maxLen; omega
        have hdr : qs.drop k = qs[k] :: qs.drop (k + 1) := List.drop_eq_getElem_cons hlt
        by_cases ht : trimL qs[k] = []
        · have HTk : Box (bs (trimL (bs qs[k]).data.toList) = ⟨#[]⟩) := box (by rw [bs_toList, ht]; rfl)
          have HN : Box (parF ps [] = parF (qs.drop (k + 1)) acc) := box (by rw [HP.out, hdr, parF_skip ht])
          clear hdr ht
          go_wp2_with fail
          refine (rTrim_is hpz HTk).mono ?_; rintro e w2 ⟨rfl, rfl⟩
          go_wp2
          go_roundw
          case rel => exact ⟨k + 1, acc, by go_num, by omega, by omega, by omega, by rw [HQ1.out]; exact HN.out, O0.out, BL.out⟩
          case measure => simp [intOf]; omega
        · obtain ⟨X, hX⟩ : ∃ X, trimL qs[k] = X := ⟨_, rfl⟩
          obtain ⟨x, hx⟩ : ∃ x, bs X = x := ⟨_, rfl⟩
          have hxd : x.data.toList = X := by rw [← hx]; rfl
          have HTk : Box (bs (trimL (bs qs[k]).data.toList) = x) := box (by rw [bs_toList, hX, hx])
          have hxe : x.toList.isEmpty = false := by
            rw [← hx, toList_bs]
            cases h : X with
            | nil => exact absurd (hX.trans h) ht
            | cons c r => rfl
          have hxz : x.size ≤ 65000 := by
            rw [← hx, bs_size, ← hX]
            have := hsm.out qs[k] hmem
            have := trim_le qs[k]
            omega
          have hxm : x.size ≤ maxLen := by unfold maxLen; omega
          have hlx : x.data.toList.length = x.size := by simp
          clear hx
          have HNone : paramL x.data.toList = none → Box (parF ps [] = none) := fun h => box (by rw [HP.out, hdr, parF_bad ht (by rw [hX, ← hxd]; exact h)])
          have HSome : ∀ f, paramL x.data.toList = some f → Box (parF ps [] = parF (qs.drop (k + 1)) (acc ++ [f])) := fun f h => box (by rw [HP.out, hdr, parF_step ht (by rw [hX, ← hxd]; exact h)])
          have HSM := box HSome
          have HNO := box HNone
          clear HSome HNone hdr ht hX hxd
          rcases idx_cases x.data.toList 61 with hi | ⟨o, hi, ho⟩
          · have HI := box (idx_none hi)
            have HB := box (par_none1 HQ.out HNE.out (HNO.out (param_no hi)).out)
            clear hi hlx
            go_wp2_with fail
            refine (rTrim_is hpz HTk).mono ?_; rintro e w2 ⟨rfl, rfl⟩
            go_wp2_with fail
            refine (rIndex61_is hxm HI).mono ?_; rintro e w2 ⟨rfl, rfl⟩
            go_wp2
            go_ret3
            exact parW_none HB.out (B1.out.trans (BL.out.mono hB1))
          · rw [hlx] at ho
            have HI := box (idx_some hi)
            have hoz : (x.extract 0 o).size ≤ maxLen := by rw [ByteArray.size_extract]; unfold maxLen; omega
            have hoz4 : (x.extract 0 o).size ≤ 4294967296 := by rw [ByteArray.size_extract]; omega
            have hvz : (x.extract (o + 1) x.size).size ≤ maxLen := by rw [ByteArray.size_extract]; unfold maxLen; omega
            have hvz4 : (x.extract (o + 1) x.size).size ≤ 4294967296 := by rw [ByteArray.size_extract]; omega
            have e1 := ext_take x o
            have e2 := ext_drop x (o + 1)
            have HZ1 := box hoz
            have HZ2 := box hvz
            have HZ4 := box hvz4
            have HZ3 := box hoz4
            clear hlx hoz hvz hoz4 hvz4
            rcases htk : tokL (x.data.toList.take o) with _ | _
            · have HTK : Box (tokL (x.extract 0 o).data.toList = false) := box (by rw [e1]; exact htk)
              have HB := box (par_none1 HQ.out HNE.out (HNO.out (param_name hi htk)).out)
              clear hi htk e1 e2
              go_wp2_with fail
              refine (rTrim_is hpz HTk).mono ?_; rintro e w2 ⟨rfl, rfl⟩
              go_wp2_with fail
              refine (rIndex61_is hxm HI).mono ?_; rintro e w2 ⟨rfl, rfl⟩
              go_wp2_with fail
              refine (rToken_is HZ1.out HTK).mono ?_; rintro e w2 ⟨rfl, rfl⟩
              go_wp2
              go_ret3
              exact parW_none HB.out (B1.out.trans (BL.out.mono hB1))
            · have HTK : Box (tokL (x.extract 0 o).data.toList = true) := box (by rw [e1]; exact htk)
              obtain ⟨nm, hnm⟩ : ∃ nm, bs (lowL (x.data.toList.take o)) = nm := ⟨_, rfl⟩
              have HLW : Box (bs (lowL (x.extract 0 o).data.toList) = nm) := box (by rw [e1]; exact hnm)
              rcases hvk : tokL (x.data.toList.drop (o + 1)) with _ | _
              · have HVK : Box (tokL (x.extract (o + 1) x.size).data.toList = false) := box (by rw [e2]; exact hvk)
                rcases hu : unqL (x.data.toList.drop (o + 1)) with _ | u
                · have HU : Box (unqL (x.extract (o + 1) x.size).data.toList = none) := box (by rw [e2]; exact hu)
                  have HB := box (par_none1 HQ.out HNE.out (HNO.out (param_bad hi htk hvk hu)).out)
                  clear hi htk hvk hu e1 e2 hnm
                  go_wp2_with fail
                  refine (rTrim_is hpz HTk).mono ?_; rintro e w2 ⟨rfl, rfl⟩
                  go_wp2_with fail
                  refine (rIndex61_is hxm HI).mono ?_; rintro e w2 ⟨rfl, rfl⟩
                  go_wp2_with fail
                  refine (rToken_is HZ1.out HTK).mono ?_; rintro e w2 ⟨rfl, rfl⟩
                  go_wp2_with fail
                  refine (rToken_is HZ2.out HVK).mono ?_; rintro e w2 ⟨rfl, rfl⟩
                  go_wp2_with fail
                  refine (rUnq_is HZ4.out HU).mono ?_; rintro e w3 ⟨rfl, hb3⟩
                  have B3 := box (BL.out.trans (hb3.mono BL.out.size))
                  unfold optV
                  clear hb3
                  go_wp2
                  go_ret3
                  exact parW_none HB.out (B1.out.trans (B3.out.mono hB1))
                · obtain ⟨ub, hub⟩ : ∃ ub, bs u = ub := ⟨_, rfl⟩
                  have HU : Box (unqL (x.extract (o + 1) x.size).data.toList = some u) := box (by rw [e2]; exact hu)
                  have HN : Box (parF ps [] = parF (qs.drop (k + 1)) (acc ++ [(nm, ub)])) := box (by have := (HSM.out _ (param_quo hi htk hvk hu)).out; rw [hnm, hub] at this; exact this)
                  have HUB := box hub
                  clear hi htk hvk hu e1 e2 hnm hub
                  go_wp2_with fail
                  refine (rTrim_is hpz HTk).mono ?_; rintro e w2 ⟨rfl, rfl⟩
                  go_wp2_with fail
                  refine (rIndex61_is hxm HI).mono ?_; rintro e w2 ⟨rfl, rfl⟩
                  go_wp2_with fail
                  refine (rToken_is HZ1.out HTK).mono ?_; rintro e w2 ⟨rfl, rfl⟩
                  go_wp2_with fail
                  refine (rToken_is HZ2.out HVK).mono ?_; rintro e w2 ⟨rfl, rfl⟩
                  go_wp2_with fail
                  refine (rUnq_is HZ4.out HU).mono ?_; rintro e w3 ⟨rfl, hb3⟩
                  rw [show optV (some u) = .tuple #[.string (bs u), .bool true] from rfl, HUB.out]
                  have O3 := box (own_below O0.out hb3)
                  have B3 := box (BL.out.trans (hb3.mono BL.out.size))
                  clear hb3
                  go_wp2_with fail
                  refine (rLower9_is (x := nm) HZ3.out HLW).mono ?_; rintro e w4 ⟨rfl, hb4⟩
                  have O4 := box (own_below O3.out hb4)
                  have B4 := box (B3.out.trans (hb4.mono B3.out.size))
                  clear hb4
                  go_wp2_with (at_builtin; refine wpList_append_prm _ rfl (.tmp 61) (.tmp 68) rfl w1.heap.size _ acc rfl ?a1 _ _ rfl nm ub ?b1 ?b2 ?c1 ?d1 ?_)
                  case a1 => exact own_below O4.out (below_new _ _)
                  case b1 => go_simp
                  case b2 => go_simp
                  case c1 => omega
                  case d1 => have := B4.out.size; simp; omega
                  intro v5 w5 hO5 hb5
                  have O5 := box hO5
                  have B5 := box ((B4.out.alloc B4.out.size _).trans hb5)
                  clear hO5 hb5
                  go_wp2
                  go_roundw
                  case rel => exact ⟨k + 1, acc ++ [(nm, ub)], by go_num, by omega, by omega, by rw [List.length_append]; simp; omega, by rw [HQ1.out]; exact HN.out, O5.out, B5.out⟩
                  case measure => simp [intOf]; omega
              · have HVK : Box (tokL (x.extract (o + 1) x.size).data.toList = true) := box (by rw [e2]; exact hvk)
                obtain ⟨vb, hvb⟩ : ∃ vb, bs (x.data.toList.drop (o + 1)) = vb := ⟨_, rfl⟩
                have hve : x.extract (o + 1) x.size = vb := by rw [← hvb, ← e2]; rfl
                have HN : Box (parF ps [] = parF (qs.drop (k + 1)) (acc ++ [(nm, x.extract (o + 1) x.size)])) := box (by have := (HSM.out _ (param_tok hi htk hvk)).out; rw [hnm, hvb] at this; rw [hve]; exact this)
                clear hi htk hvk e1 e2 hnm hvb hve
                go_wp2_with fail
                refine (rTrim_is hpz HTk).mono ?_; rintro e w2 ⟨rfl, rfl⟩
                go_wp2_with fail
                refine (rIndex61_is hxm HI).mono ?_; rintro e w2 ⟨rfl, rfl⟩
                go_wp2_with fail
                refine (rToken_is HZ1.out HTK).mono ?_; rintro e w2 ⟨rfl, rfl⟩
                go_wp2_with fail
                refine (rToken_is HZ2.out HVK).mono ?_; rintro e w2 ⟨rfl, rfl⟩
                go_wp2_with fail
                refine (rLower9_is (x := nm) HZ3.out HLW).mono ?_; rintro e w4 ⟨rfl, hb4⟩
                have O4 := box (own_below O0.out hb4)
                have B4 := box (BL.out.trans (hb4.mono BL.out.size))
                clear hb4
                go_wp2_with (at_builtin; refine wpList_append_prm _ rfl (.tmp 61) (.tmp 68) rfl w1.heap.size _ acc rfl ?a1 _ _ rfl nm (x.extract (o + 1) x.size) ?b1 ?b2 ?c1 ?d1 ?_)
                case a1 => exact own_below O4.out (below_new _ _)
                case b1 => go_simp
                case b2 => go_simp
                case c1 => omega
                case d1 => have := B4.out.size; simp; omega
                intro v5 w5 hO5 hb5
                have O5 := box hO5
                have B5 := box ((B4.out.alloc B4.out.size _).trans hb5)
                clear hO5 hb5
                go_wp2
                go_roundw
                case rel => exact ⟨k + 1, acc ++ [(nm, x.extract (o + 1) x.size)], by go_num, by omega, by omega, by rw [List.length_append]; simp; omega, by rw [HQ1.out]; exact HN.out, O5.out, B5.out⟩
                case measure => simp [intOf]; omega
      · have HD : Box (parA s.data.toList = x0 ∧ parB s.data.toList = acc ∧ parO s.data.toList = true) := box (by
          have := par_some HQ.out HNE.out (HP.out.trans (by rw [List.drop_of_length_le (by omega)]; rfl))
          rwa [HX0.out] at this)
        go_wp2
        go_ret3
        obtain ⟨d1, d2, d3⟩ := HD.out
        exact ⟨_, by rw [d1, d3]; rfl, by rw [d2]; exact Go.Joins.ownsRow_le O0.out hB1, B1.out.trans (BL.out.mono hB1)⟩
end
section
open Go.RowKit
def medW (w w' : World) (o : Option M) (e : Ending) : Prop := ∃ v, e = .returned (.tuple #[.agg #[.string (ofM o).1, .string (ofM o).2.1, v], .bool o.isSome]) ∧ OwnP w' w.heap.size v (ofM o).2.2 ∧ Below w.heap.size w w'
theorem medW_none {w w' : World} {o : Option M} (h : Box (o = none)) (hb : Below w.heap.size w w') : medW w w' o (.returned (.tuple #[.agg #[.string ⟨#[]⟩, .string ⟨#[]⟩, .slice none 0 0], .bool false])) := by
  rw [h.out]
  exact ⟨_, rfl, OwnP.nil _ _, hb⟩
theorem medW_some {w w' : World} {o : Option M} {a b : ByteArray} {L : List F} {v : Value} (h : Box (o = some (a, b, L))) (hO : OwnP w' w.heap.size v L) (hb : Below w.heap.size w w') : medW w w' o (.returned (.tuple #[.agg #[.string a, .string b, v], .bool true])) := by
  rw [h.out]
  exact ⟨_, rfl, hO, hb⟩
theorem rIndex47_is {s : ByteArray} {n : Int} {w : World} (hs : s.size ≤ maxLen) (h : Box (idxF s.data.toList 47 0 = n)) :
    Calls Try.prog 35 #[.string s, .int .u8 47, .int .i64 0] w fun e w' => e = .returned (.int .i64 n) ∧ w = w' :=
  (rIndex_any s 47 47 0 w hs (Nat.zero_le _) rfl).mono fun e w' ⟨h1, h2⟩ => ⟨by rw [h1, h.out], h2⟩
/-- ParseParams with its results as letters -/
theorem rParO_is {s x : ByteArray} {K : List F} {b : Bool} {w : World} (hs : s.size ≤ 65000) (h : Box (parA s.data.toList = x ∧ parB s.data.toList = K ∧ parO s.data.toList = b)) :
    Calls Try.prog 34 #[.string s] w fun e w' => ∃ a cap, e = .returned (.tuple #[.string x, .slice a K.length cap, .bool b]) ∧ OwnP w' w.heap.size (.slice a K.length cap) K ∧ Below w.heap.size w w' :=
  (rPar_any s w hs).mono fun e w' ⟨v, h1, h2, h3⟩ => by
    obtain ⟨rfl, rfl, rfl⟩ := h.out
    obtain ⟨a, cap, rfl, hS, hc⟩ := h2.fs
    exact ⟨a, cap, h1, h2, h3⟩
theorem star_is {x : ByteArray} {b : Bool} (h : (x.toList == [42]) = b) : (x.data.toList = [42]) ↔ b = true := by
  rw [toList_data] at h
  subst h; simp
theorem parA_size (s : ByteArray) : (parA s.data.toList).size ≤ s.size := by
  obtain ⟨v, ps, hq⟩ := cut_first 59 s.data.toList
  have hsm := cut_small (sep := 59) s.data.toList.length false s.data.toList [] v (by rw [show cutF 59 s.data.toList.length false s.data.toList [] = v :: ps from hq]; simp)
  have hz : s.data.toList.length = s.size := by simp
  simp only [List.length_nil, Nat.zero_add] at hsm
  by_cases ht : trimL v = []
  · rw [(par_none0 hq ht).1]; exact Nat.zero_le _
  · cases hp : parF ps [] with
    | none => rw [(par_none1 hq ht hp).1]; exact Nat.zero_le _
    | some L =>
      rw [(par_some hq ht hp).1, bs_size]
      have := trim_le v
      omega
set_option maxHeartbeats 1000000 in
theorem rRange_ok (s x : ByteArray) (K : List F) (o : Nat) (nm sb : ByteArray) (w : World) (hs : s.size ≤ 65000) (hxz : x.size ≤ 65000) (ho : o < x.size)
    (H : Box (parA s.data.toList = x ∧ parB s.data.toList = K ∧ parO s.data.toList = true)) (HI : Box (idxF x.data.toList 47 0 = (o : Int))) (HK1 : Box (tokL (x.extract 0 o).data.toList = true)) (HK2 : Box (tokL (x.extract (o + 1) x.size).data.toList = true))
    (b1 b2 : Bool) (q1 : ((x.extract 0 o).toList == [42]) = b1) (q2 : ((x.extract (o + 1) x.size).toList == [42]) = b2) (q3 : b1 = true → b2 = true)
    (HL1 : Box (bs (lowL (x.extract 0 o).data.toList) = nm)) (HL2 : Box (bs (lowL (x.extract (o + 1) x.size).data.toList) = sb)) :
    Calls Try.prog 19 #[.string s] w fun e w' => ∃ v, e = .returned (.tuple #[.agg #[.string nm, .string sb, v], .bool true]) ∧ OwnP w' w.heap.size v K ∧ Below w.heap.size w w' := by
  have hxm : x.size ≤ maxLen := by unfold maxLen; omega
  have hoz : (x.extract 0 o).size ≤ maxLen := by rw [ByteArray.size_extract]; unfold maxLen; omega
  have hoz4 : (x.extract 0 o).size ≤ 4294967296 := by rw [ByteArray.size_extract]; omega
  have hvz : (x.extract (o + 1) x.size).size ≤ maxLen := by rw [ByteArray.size_extract]; unfold maxLen; omega
  have hvz4 : (x.extract (o + 1) x.size).size ≤ 4294967296 := by rw [ByteArray.size_extract]; omega
  have HZ1 := box hoz
  have HZ2 := box hvz
  have HZ4 := box hvz4
  have HZ3 := box hoz4
  have i1 : (o : Int) ≤ (x.size : Int) := by omega
  have i2 : (0 : Int) ≤ (o : Int) + 1 := by omega
  have i3 : (o : Int) + 1 ≤ (x.size : Int) := by omega
  have i4 : IntKind.i64.wrap ((o : Int) + 1) = (o : Int) + 1 := by simp [IntKind.wrap, IntKind.bits, IntKind.signed]; omega
  obtain ⟨p1, hp1⟩ : ∃ p, x.extract 0 o = p := ⟨_, rfl⟩
  obtain ⟨p2, hp2⟩ : ∃ p, x.extract (o + 1) x.size = p := ⟨_, rfl⟩
  have HP1 := box hp1
  have HP2 := box hp2
  have HM1 : Box (bs (lowL p1.data.toList) = nm) := box (by rw [← hp1]; exact HL1.out)
  have HM2 : Box (bs (lowL p2.data.toList) = sb) := box (by rw [← hp2]; exact HL2.out)
  have hy1 : p1.size ≤ 4294967296 := by rw [← hp1]; exact hoz4
  have hy2 : p2.size ≤ 4294967296 := by rw [← hp2]; exact hvz4
  clear hoz hvz hoz4 hvz4 hp1 hp2
  have hq : b1 = false ∨ (b1 = true ∧ b2 = true) := by cases b1 <;> simp_all
  rcases hq with rfl | ⟨rfl, rfl⟩
  · go_enter Try.func19, Try.ntmps19
    go_wp2_with fail
    refine (rParO_is hs H).mono ?_; rintro e w1 ⟨a1, cap1, rfl, hO1, hb1⟩
    have O1 := box hO1
    have C1 := box ((C3.new (.string ⟨#[]⟩) (.string ⟨#[]⟩) (.slice none 0 0) w 45).next hb1)
    have B1 := box ((below_new w _).trans (hb1.mono (below_new w _).size))
    clear hO1 hb1
    go_wp2_with fail
    refine (rIndex47_is hxm HI).mono ?_; rintro e w2 ⟨rfl, rfl⟩
    go_wp2_with fail
    refine (rToken_is HZ1.out HK1).mono ?_; rintro e w2 ⟨rfl, rfl⟩
    go_wp2_with fail
    refine (rToken_is HZ2.out HK2).mono ?_; rintro e w2 ⟨rfl, rfl⟩
    go_wp2
    go_region_held3 (fun w' => True) (first | trivial)
      (first
        | (go_at_call 29; rw [HP1.out]; refine (rLower9_is (s := p1) hy1 HM1).mono ?_; rintro e w3 ⟨rfl, hb3⟩)
        | (go_at_call 29; rw [HP2.out]; refine (rLower9_is (s := p2) hy2 HM2).mono ?_; rintro e w4 ⟨rfl, hb4⟩; obtain ⟨⟨r0, r1, r2⟩, ⟨f0, f1, f2⟩⟩ := ((C1.out.next (Below.refl _ _).drew).next hb3).next hb4))
    all_goals
      have O4 := own_below (own_below O1.out (Below.refl _ _).drew) (hb3.trans (hb4.mono hb3.size))
      have B4 := (B1.out.drew).trans ((hb3.trans (hb4.mono hb3.size)).mono B1.out.size)
      clear hb3 hb4
      go_wp2
      (try simp only [Exit.inBlock, Exit.then])
      refine bodyPost_ret (v := .tuple #[.agg #[.string nm, .string sb, .slice a1 K.length cap1], .bool true]) (by rw [results_cell_tmp rfl]; go_simp) rfl ?_
      exact ⟨_, rfl, own_le (own_only O4 (only3 _ _ _ _ _) (by simp)) (by simp), below3 B4 (Nat.le_refl _) _ _ _⟩
  · go_enter Try.func19, Try.ntmps19
    go_wp2_with fail
    refine (rParO_is hs H).mono ?_; rintro e w1 ⟨a1, cap1, rfl, hO1, hb1⟩
    have O1 := box hO1
    have C1 := box ((C3.new (.string ⟨#[]⟩) (.string ⟨#[]⟩) (.slice none 0 0) w 45).next hb1)
    have B1 := box ((below_new w _).trans (hb1.mono (below_new w _).size))
    clear hO1 hb1
    go_wp2_with fail
    refine (rIndex47_is hxm HI).mono ?_; rintro e w2 ⟨rfl, rfl⟩
    go_wp2_with fail
    refine (rToken_is HZ1.out HK1).mono ?_; rintro e w2 ⟨rfl, rfl⟩
    go_wp2_with fail
    refine (rToken_is HZ2.out HK2).mono ?_; rintro e w2 ⟨rfl, rfl⟩
    go_wp2
    go_region_held3 (fun w' => True) (first | trivial)
      (first
        | (go_at_call 29; rw [HP1.out]; refine (rLower9_is (s := p1) hy1 HM1).mono ?_; rintro e w3 ⟨rfl, hb3⟩)
        | (go_at_call 29; rw [HP2.out]; refine (rLower9_is (s := p2) hy2 HM2).mono ?_; rintro e w4 ⟨rfl, hb4⟩; obtain ⟨⟨r0, r1, r2⟩, ⟨f0, f1, f2⟩⟩ := ((C1.out.next (Below.refl _ _).drew).next hb3).next hb4))
    all_goals
      have O4 := own_below (own_below O1.out (Below.refl _ _).drew) (hb3.trans (hb4.mono hb3.size))
      have B4 := (B1.out.drew).trans ((hb3.trans (hb4.mono hb3.size)).mono B1.out.size)
      clear hb3 hb4
      go_wp2
      (try simp only [Exit.inBlock, Exit.then])
      refine bodyPost_ret (v := .tuple #[.agg #[.string nm, .string sb, .slice a1 K.length cap1], .bool true]) (by rw [results_cell_tmp rfl]; go_simp) rfl ?_
      exact ⟨_, rfl, own_le (own_only O4 (only3 _ _ _ _ _) (by simp)) (by simp), below3 B4 (Nat.le_refl _) _ _ _⟩
set_option maxHeartbeats 4000000 in
theorem rRange_any (s : ByteArray) (w : World) (hs : s.size ≤ 65000) :
    Calls Try.prog 19 #[.string s] w fun e w' => medW w w' (rangeL s.data.toList) e := by
  obtain ⟨x, hx⟩ : ∃ x, parA s.data.toList = x := ⟨_, rfl⟩
  obtain ⟨K, hK⟩ : ∃ K, parB s.data.toList = K := ⟨_, rfl⟩
  have hxz : x.size ≤ 65000 := by rw [← hx]; exact Nat.le_trans (parA_size s) hs
  rcases hb : parO s.data.toList with _ | _
  · have H := box (And.intro hx (And.intro hK hb))
    have HR := box (range_par hb)
    clear hx hK hb
    go_enter Try.func19, Try.ntmps19
    go_wp2_with fail
    refine (rParO_is hs H).mono ?_; rintro e w1 ⟨a1, cap1, rfl, hO1, hb1⟩
    have O1 := box hO1
    have C1 := box ((C3.new (.string ⟨#[]⟩) (.string ⟨#[]⟩) (.slice none 0 0) w 45).next hb1)
    have B1 := box ((below_new w _).trans (hb1.mono (below_new w _).size))
    clear hO1 hb1
    obtain ⟨⟨r0, r1, r2⟩, ⟨f0, f1, f2⟩⟩ := C1.out
    go_wp2
    (try simp only [Exit.inBlock, Exit.then])
    refine bodyPost_ret (v := .tuple #[.agg #[.string ⟨#[]⟩, .string ⟨#[]⟩, .slice none 0 0], .bool false]) (by rw [results_cell_tmp rfl]; go_simp) rfl ?_
    exact medW_none HR (below3 B1.out (Nat.le_refl _) _ _ _)
  · have H := box (And.intro hx (And.intro hK hb))
    have HT := range_type hb hx
    rw [hK] at HT
    have hxm : x.size ≤ maxLen := by unfold maxLen; omega
    have hlx : x.data.toList.length = x.size := by simp
    clear hx hK hb
    rcases idx_cases x.data.toList 47 with hi | ⟨o, hi, ho⟩
    · have HI := box (idx_none hi)
      have HR : Box (rangeL s.data.toList = none) := box (by rw [HT, type_no hi]; rfl)
      clear hi hlx HT
      go_enter Try.func19, Try.ntmps19
      go_wp2_with fail
      refine (rParO_is hs H).mono ?_; rintro e w1 ⟨a1, cap1, rfl, hO1, hb1⟩
      have O1 := box hO1
      have C1 := box ((C3.new (.string ⟨#[]⟩) (.string ⟨#[]⟩) (.slice none 0 0) w 45).next hb1)
      have B1 := box ((below_new w _).trans (hb1.mono (below_new w _).size))
      clear hO1 hb1
      go_wp2_with fail
      refine (rIndex47_is hxm HI).mono ?_; rintro e w2 ⟨rfl, rfl⟩
      obtain ⟨⟨r0, r1, r2⟩, ⟨f0, f1, f2⟩⟩ := C1.out
      go_wp2
      (try simp only [Exit.inBlock, Exit.then])
      refine bodyPost_ret (v := .tuple #[.agg #[.string ⟨#[]⟩, .string ⟨#[]⟩, .slice none 0 0], .bool false]) (by rw [results_cell_tmp rfl]; go_simp) rfl ?_
      exact medW_none HR (below3 B1.out (Nat.le_refl _) _ _ _)
    · rw [hlx] at ho
      have HI := box (idx_some hi)
      have hoz : (x.extract 0 o).size ≤ maxLen := by rw [ByteArray.size_extract]; unfold maxLen; omega
      have hoz4 : (x.extract 0 o).size ≤ 4294967296 := by rw [ByteArray.size_extract]; omega
      have hvz : (x.extract (o + 1) x.size).size ≤ maxLen := by rw [ByteArray.size_extract]; unfold maxLen; omega
      have hvz4 : (x.extract (o + 1) x.size).size ≤ 4294967296 := by rw [ByteArray.size_extract]; omega
      have e1 := ext_take x o
      have e2 := ext_drop x (o + 1)
      have HZ1 := box hoz
      have HZ2 := box hvz
      have HZ4 := box hvz4
      have HZ3 := box hoz4
      clear hlx hoz hvz hoz4 hvz4
      rcases htk : tokL (x.data.toList.take o) with _ | _
      · have HK1 : Box (tokL (x.extract 0 o).data.toList = false) := box (by rw [e1]; exact htk)
        have HR : Box (rangeL s.data.toList = none) := box (by rw [HT, type_tok1 hi htk]; rfl)
        clear hi htk e1 e2 HT
        go_enter Try.func19, Try.ntmps19
        go_wp2_with fail
        refine (rParO_is hs H).mono ?_; rintro e w1 ⟨a1, cap1, rfl, hO1, hb1⟩
        have O1 := box hO1
        have C1 := box ((C3.new (.string ⟨#[]⟩) (.string ⟨#[]⟩) (.slice none 0 0) w 45).next hb1)
        have B1 := box ((below_new w _).trans (hb1.mono (below_new w _).size))
        clear hO1 hb1
        go_wp2_with fail
        refine (rIndex47_is hxm HI).mono ?_; rintro e w2 ⟨rfl, rfl⟩
        go_wp2_with fail
        refine (rToken_is HZ1.out HK1).mono ?_; rintro e w2 ⟨rfl, rfl⟩
        obtain ⟨⟨r0, r1, r2⟩, ⟨f0, f1, f2⟩⟩ := C1.out
        go_wp2
        (try simp only [Exit.inBlock, Exit.then])
        refine bodyPost_ret (v := .tuple #[.agg #[.string ⟨#[]⟩, .string ⟨#[]⟩, .slice none 0 0], .bool false]) (by rw [results_cell_tmp rfl]; go_simp) rfl ?_
        exact medW_none HR (below3 B1.out (Nat.le_refl _) _ _ _)
      · have HK1 : Box (tokL (x.extract 0 o).data.toList = true) := box (by rw [e1]; exact htk)
        rcases hvk : tokL (x.data.toList.drop (o + 1)) with _ | _
        · have HK2 : Box (tokL (x.extract (o + 1) x.size).data.toList = false) := box (by rw [e2]; exact hvk)
          have HR : Box (rangeL s.data.toList = none) := box (by rw [HT, type_tok2 hi htk hvk]; rfl)
          clear hi htk hvk e1 e2 HT
          go_enter Try.func19, Try.ntmps19
          go_wp2_with fail
          refine (rParO_is hs H).mono ?_; rintro e w1 ⟨a1, cap1, rfl, hO1, hb1⟩
          have O1 := box hO1
          have C1 := box ((C3.new (.string ⟨#[]⟩) (.string ⟨#[]⟩) (.slice none 0 0) w 45).next hb1)
          have B1 := box ((below_new w _).trans (hb1.mono (below_new w _).size))
          clear hO1 hb1
          go_wp2_with fail
          refine (rIndex47_is hxm HI).mono ?_; rintro e w2 ⟨rfl, rfl⟩
          go_wp2_with fail
          refine (rToken_is HZ1.out HK1).mono ?_; rintro e w2 ⟨rfl, rfl⟩
          go_wp2_with fail
          refine (rToken_is HZ2.out HK2).mono ?_; rintro e w2 ⟨rfl, rfl⟩
          obtain ⟨⟨r0, r1, r2⟩, ⟨f0, f1, f2⟩⟩ := C1.out
          go_wp2
          (try simp only [Exit.inBlock, Exit.then])
          refine bodyPost_ret (v := .tuple #[.agg #[.string ⟨#[]⟩, .string ⟨#[]⟩, .slice none 0 0], .bool false]) (by rw [results_cell_tmp rfl]; go_simp) rfl ?_
          exact medW_none HR (below3 B1.out (Nat.le_refl _) _ _ _)
        · have HK2 : Box (tokL (x.extract (o + 1) x.size).data.toList = true) := box (by rw [e2]; exact hvk)
          rcases hs1 : ((x.extract 0 o).toList == [42]) with _ | _
          · have hn : ¬ (x.data.toList.take o = [42] ∧ x.data.toList.drop (o + 1) ≠ [42]) := by
              rw [← e1, star_is hs1]; simp
            obtain ⟨nm, hnm⟩ : ∃ nm, bs (lowL (x.data.toList.take o)) = nm := ⟨_, rfl⟩
            obtain ⟨sb, hsb⟩ : ∃ sb, bs (lowL (x.data.toList.drop (o + 1))) = sb := ⟨_, rfl⟩
            have HL1 : Box (bs (lowL (x.extract 0 o).data.toList) = nm) := box (by rw [e1]; exact hnm)
            have HL2 : Box (bs (lowL (x.extract (o + 1) x.size).data.toList) = sb) := box (by rw [e2]; exact hsb)
            have HR : Box (rangeL s.data.toList = some (nm, sb, K)) := box (by rw [HT, type_ok hi htk hvk hn, hnm, hsb]; rfl)
            clear hi htk hvk e1 e2 HT hn hnm hsb
            refine (rRange_ok s x K o nm sb w hs hxz ho H HI HK1 HK2 false _ hs1 rfl (by simp) HL1 HL2).mono ?_
            rintro e w' ⟨v, rfl, hO, hb⟩
            exact medW_some HR hO hb
          · rcases hs2 : ((x.extract (o + 1) x.size).toList == [42]) with _ | _
            · have hst : x.data.toList.take o = [42] ∧ x.data.toList.drop (o + 1) ≠ [42] := by
                rw [← e1, ← e2, star_is hs1]
                refine ⟨rfl, fun h => ?_⟩
                have := (star_is hs2).mp h
                simp at this
              have HR : Box (rangeL s.data.toList = none) := box (by rw [HT, type_star hi htk hvk hst]; rfl)
              clear hi htk hvk e1 e2 HT hst
              go_enter Try.func19, Try.ntmps19
              go_wp2_with fail
              refine (rParO_is hs H).mono ?_; rintro e w1 ⟨a1, cap1, rfl, hO1, hb1⟩
              have O1 := box hO1
              have C1 := box ((C3.new (.string ⟨#[]⟩) (.string ⟨#[]⟩) (.slice none 0 0) w 45).next hb1)
              have B1 := box ((below_new w _).trans (hb1.mono (below_new w _).size))
              clear hO1 hb1
              go_wp2_with fail
              refine (rIndex47_is hxm HI).mono ?_; rintro e w2 ⟨rfl, rfl⟩
              go_wp2_with fail
              refine (rToken_is HZ1.out HK1).mono ?_; rintro e w2 ⟨rfl, rfl⟩
              go_wp2_with fail
              refine (rToken_is HZ2.out HK2).mono ?_; rintro e w2 ⟨rfl, rfl⟩
              obtain ⟨⟨r0, r1, r2⟩, ⟨f0, f1, f2⟩⟩ := C1.out
              go_wp2
              (try simp only [Exit.inBlock, Exit.then])
              refine bodyPost_ret (v := .tuple #[.agg #[.string ⟨#[]⟩, .string ⟨#[]⟩, .slice none 0 0], .bool false]) (by rw [results_cell_tmp rfl]; go_simp) rfl ?_
              exact medW_none HR (below3 B1.out (Nat.le_refl _) _ _ _)
            · have hn : ¬ (x.data.toList.take o = [42] ∧ x.data.toList.drop (o + 1) ≠ [42]) := by
                rw [← e2, not_and]
                intro _ h
                exact h ((star_is hs2).mpr rfl)
              obtain ⟨nm, hnm⟩ : ∃ nm, bs (lowL (x.data.toList.take o)) = nm := ⟨_, rfl⟩
              obtain ⟨sb, hsb⟩ : ∃ sb, bs (lowL (x.data.toList.drop (o + 1))) = sb := ⟨_, rfl⟩
              have HL1 : Box (bs (lowL (x.extract 0 o).data.toList) = nm) := box (by rw [e1]; exact hnm)
              have HL2 : Box (bs (lowL (x.extract (o + 1) x.size).data.toList) = sb) := box (by rw [e2]; exact hsb)
              have HR : Box (rangeL s.data.toList = some (nm, sb, K)) := box (by rw [HT, type_ok hi htk hvk hn, hnm, hsb]; rfl)
              clear hi htk hvk e1 e2 HT hn hnm hsb
              refine (rRange_ok s x K o nm sb w hs hxz ho H HI HK1 HK2 true true hs1 hs2 (by simp) HL1 HL2).mono ?_
              rintro e w' ⟨v, rfl, hO, hb⟩
              exact medW_some HR hO hb
end
section
open Go.RowKit
theorem c_bd (c : UInt8) : (0 : Int) ≤ (c.toNat : Int) ∧ (c.toNat : Int) ≤ 255 := by have := c.toNat_lt; omega
theorem rDigit_c (c : UInt8) (w : World) :
    Calls Try.prog 57 #[.int .u8 (c.toNat : Int)] w fun e w' => e = .returned (.bool (digitI (c.toNat : Int))) ∧ w = w' := rDigit_any _ w (c_bd c).1 (c_bd c).2
end
end Go.Proofs.Ytgmfmlcpogbolaa.Asc
