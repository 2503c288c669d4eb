/- Merged texts: LisRef AscTrim AscUn AscUnq ParRef MedRef StaVer. -/
import Derived.Test.YtcnohcbhnldglaaM01
import Derived.Test.YtcnohcbhnldglaaM02
import Derived.Test.YtcnohcbhnldglaaM03
import Derived.Test.YtcnohcbhnldglaaM04
import Derived.Test.YtcnohcbhnldglaaM05
import Derived.Deep.RegionHeld3
import Derived.Lib.Hide
import Derived.LoopTactic
set_option linter.unusedVariables false
set_option linter.unusedSimpArgs false
set_option maxRecDepth 100000
namespace Go.Proofs.Ytcnohcbhnldglaa.Asc
section
open Go.RowKit
theorem byte_is {c d : UInt8} (h : ((c.toNat : Int) == (d.toNat : Int)) = true) : c = d := by
  have : (c.toNat : Int) = d.toNat := by simpa using h
  exact UInt8.toNat_inj.mp (by omega)
theorem byte_no {c d : UInt8} (h : ((c.toNat : Int) == (d.toNat : Int)) = false) : c ≠ d := by
  rintro rfl
  simp at h
end
section
open Go.RowKit
theorem ret_str {a b : ByteArray} (h : a = b) : Ending.returned (.string a) = .returned (.string b) := by rw [h]
theorem str_ext {a : ByteArray} {l : List UInt8} (h : a.data.toList = l) : a = ⟨l.toArray⟩ := by
  subst h; rfl
theorem extract_list (s : ByteArray) (i j : Nat) : (s.extract i j).data.toList = (s.data.toList.take j).drop i := by
  rw [ByteArray.data_extract, Array.toList_extract, List.extract_eq_take_drop, List.drop_take]
theorem blank_at {s : ByteArray} {k : Nat} {b : Bool} (hk : k < s.size) (h : blankB (s.data.toList.getD k 0) = b) : blankI (s[k].toNat) = b := by
  rw [getD_at s k hk] at h; exact h
set_option maxHeartbeats 800000 in
theorem Trim_any (s : ByteArray) (w : World) (hs : s.size ≤ maxLen) :
    Calls Try.prog 34 #[.string s] w fun e w' => e = .returned (.string ⟨(trimL s.data.toList).toArray⟩) ∧ w = w' := by
  unfold maxLen at hs
  obtain ⟨k0, e0, ht⟩ := ex_trim s.data.toList
  have HR : Hid (s.extract k0 e0 = ⟨(trimL s.data.toList).toArray⟩) := Lib.hid (str_ext (by rw [extract_list, trim_at ht]))
  obtain ⟨h1, h2, h3, h4, h5, h6⟩ := ht
  have hz : s.data.toList.length = s.size := by simp
  rw [hz] at h2
  have H3 := Lib.hid h3
  have H4 := Lib.hid h4
  have H5 := Lib.hid h5
  have H6 := Lib.hid h6
  clear h3 h4 h5 h6 hz
  go_enter Try.func34, Try.ntmps34
  go_wp2
  go_loop [3] (fun i => ∃ k : Nat, k ≤ k0 ∧ i = .int .i64 k) (fun i => s.size - (intOf i).toNat)
  case atStart => exact ⟨0, Nat.zero_le _, rfl⟩
  case round =>
    obtain ⟨k, hk, rfl⟩ := hrel
    by_cases hlt : k < k0
    · have hks : k < s.size := by omega
      have hb := byte_bd s k hks
      have hbl := blank_at hks (H3.out k hlt)
      go_wp2_with (go_at_call 53; refine (isBlank_any _ _).mono ?_; rintro e w' ⟨rfl, rfl⟩)
      go_round
      case rel => exact ⟨k + 1, by omega, by go_num⟩
      case measure => simp [intOf]; omega
    · obtain rfl : k = k0 := by omega
      by_cases hks : k < s.size
      · have hbl := blank_at hks (H5.out (by simpa using hks))
        go_wp2_with (go_at_call 53; refine (isBlank_any _ _).mono ?_; rintro e w' ⟨rfl, rfl⟩)
        go_loop [4] (fun j => ∃ e : Nat, e0 ≤ e ∧ e ≤ s.size ∧ j = .int .i64 e) (fun j => (intOf j).toNat)
        case atStart => exact ⟨s.size, h2, Nat.le_refl _, rfl⟩
        case round =>
          obtain ⟨e, he, hes, rfl⟩ := hrel
          by_cases hle : e0 < e
          · have hq : e - 1 < s.size := by omega
            have hbe := blank_at hq (H4.out (e - 1) (by omega) (by simpa using hq))
            go_wp2_with (go_at_call 53; refine (isBlank_any _ _).mono ?_; rintro e w' ⟨rfl, rfl⟩)
            go_round
            case rel => exact ⟨e - 1, by omega, by omega, by go_num⟩
            case measure => simp [intOf]; omega
          · obtain rfl : e = e0 := by omega
            by_cases hke : k < e
            · have hq : e - 1 < s.size := by omega
              have hbe := blank_at hq (H6.out hke)
              go_wp2_with (go_at_call 53; refine (isBlank_any _ _).mono ?_; rintro e w' ⟨rfl, rfl⟩)
              go_ret
              exact ⟨ret_str HR.out, rfl⟩
            · go_wp2
              go_ret
              exact ⟨ret_str HR.out, rfl⟩
      · go_wp2
        go_loop [4] (fun j => ∃ e : Nat, e0 ≤ e ∧ e ≤ s.size ∧ j = .int .i64 e) (fun j => (intOf j).toNat)
        case atStart => exact ⟨s.size, h2, Nat.le_refl _, rfl⟩
        case round =>
          obtain ⟨e, he, hes, rfl⟩ := hrel
          by_cases hle : e0 < e
          · exfalso; omega
          · obtain rfl : e = e0 := by omega
            by_cases hke : k < e
            · exfalso; omega
            · go_wp2
              go_ret
              exact ⟨ret_str HR.out, rfl⟩
end
section
open Go.RowKit
/-- the two results of a function that returns a string and whether there is one -/
def optV : Option (List UInt8) → Value
  | none => .tuple #[.string ⟨#[]⟩, .bool false]
  | some l => .tuple #[.string ⟨l.toArray⟩, .bool true]
theorem unescape_any (s : ByteArray) (w : World) (hs : s.size ≤ 4294967296) :
    Calls Try.prog 57 #[.string s] w fun e w' => e = .returned (optV (unescL s.data.toList)) ∧ Below w.heap.size w w' := by
  obtain ⟨i0, hi0, hz0, hz1, hz2⟩ := info_parts info_u8
  have hmk := fun (w : World) => run_make (P := Try.prog) w 82 5 i0 _ Try.underlying82 hi0 hz0 .i64 .i64 0 s.size (by omega) (by omega) (by rw [hz2]; omega) (by omega)
  simp only [Int.toNat_natCast, hz1, Nat.mul_one] at hmk
  go_enter Try.func57, Try.ntmps57
  go_wp2
  have hO0 : Own (w.alloc (.cells (madeCells #[.int .u8 0] s.size) 5)) w.heap.size (.slice (some ⟨w.heap.size, 0, none⟩) 0 s.size) [] :=
    ⟨rfl, .inr ⟨_, _, _, rfl, Nat.le_refl _, heap_alloc_new w _, Nat.zero_le _, by unfold maxLen; omega, by simp [size_madeCells], rfl⟩⟩
  go_loopw [4, 5] (fun v i wr => ∃ (k : Nat) (acc : List UInt8), k ≤ s.size ∧ i = .int .i64 k ∧ Own wr w.heap.size v acc ∧ UnAt s.data.toList k acc ∧ Below w.heap.size w wr) (fun _ i _ => s.size - (intOf i).toNat)
  case atStart => exact ⟨0, [], Nat.zero_le _, rfl, hO0, UnAt.start _, (Below.refl _ _).alloc (Nat.le_refl _) _⟩
  case round =>
    obtain ⟨k, acc, hk, rfl, hO, hU, hbel⟩ := hrel
    clear hO0 hmk
    have ha := hU.1
    by_cases hlt : k < s.size
    · rcases h1 : ((s[k].toNat : Int) == 34) with _ | _
      · rcases h2 : ((s[k].toNat : Int) == 92) with _ | _
        · go_wp2_with (at_builtin; refine wpList_append_byte _ rfl (.tmp 28) (.tmp 32) rfl w.heap.size _ acc rfl (hO.alloc _) _ rfl _ s[k] rfl (by go_simp) (by omega) (by have := hbel.size; simp; omega) ?_; intro v' w1 hO1 hb1)
          go_roundw
          case rel => exact ⟨k + 1, _, by omega, by go_num, hO1, hU.plain hlt h1 h2, hbel.alloc hbel.size _ |>.trans hb1⟩
          case measure => simp [intOf]; omega
        · by_cases he : k + 1 < s.size
          · go_wp2_with (at_builtin; refine wpList_append_byte _ rfl (.tmp 28) (.tmp 32) rfl w.heap.size _ acc rfl (hO.alloc _) _ rfl _ s[k + 1] rfl (by go_simp) (by omega) (by have := hbel.size; simp; omega) ?_; intro v' w1 hO1 hb1)
            go_roundw
            case rel => exact ⟨k + 1 + 1, _, by omega, by go_num, hO1, hU.esc hlt h2 he, hbel.alloc hbel.size _ |>.trans hb1⟩
            case measure => simp [intOf]; omega
          · go_wp2
            go_ret2
            exact ⟨by rw [hU.last hlt h2 (by omega)]; rfl, hbel⟩
      · go_wp2
        go_ret2
        exact ⟨by rw [hU.quote hlt h1]; rfl, hbel⟩
    · have hst := hO.str
      go_wp2
      go_ret2
      exact ⟨by rw [hU.fin (by simp; omega)]; rfl, hbel⟩
end
section
open Go.RowKit
theorem unescape_none {s : ByteArray} {w : World} (hs : s.size ≤ 4294967296) (h : unescL s.data.toList = none) :
    Calls Try.prog 57 #[.string s] w fun e w' => e = .returned (.tuple #[.string ⟨#[]⟩, .bool false]) ∧ Below w.heap.size w w' :=
  (unescape_any s w hs).mono fun e w' ⟨he, hb⟩ => ⟨by rw [he, h]; rfl, hb⟩
theorem unescape_some {s : ByteArray} {w : World} {r : List UInt8} (hs : s.size ≤ 4294967296) (h : unescL s.data.toList = some r) :
    Calls Try.prog 57 #[.string s] w fun e w' => e = .returned (.tuple #[.string ⟨r.toArray⟩, .bool true]) ∧ Below w.heap.size w w' :=
  (unescape_any s w hs).mono fun e w' ⟨he, hb⟩ => ⟨by rw [he, h]; rfl, hb⟩
set_option maxHeartbeats 800000 in
theorem Unquote_any (s : ByteArray) (w : World) (hs : s.size ≤ 4294967296) :
    Calls Try.prog 40 #[.string s] w fun e w' => e = .returned (optV (unqL s.data.toList)) ∧ Below w.heap.size w w' := by
  by_cases h2 : s.size < 2
  · go_enter Try.func40, Try.ntmps40
    go_wp2
    go_ret2
    exact ⟨by rw [unq_short h2]; rfl, Below.refl _ _⟩
  · have hp : 0 < s.size := by omega
    have hq : s.size - 1 < s.size := by omega
    by_cases h0 : ((s[0]'hp).toNat : Int) = 34
    · rcases h1 : (((s[s.size - 1]'hq).toNat : Int) != 34) with _ | _
      · have hu := unq_in h2 hp h0 hq h1
        have HI : Hid ((s.extract 1 (s.size - 1)).size ≤ 4294967296) := Lib.hid (by rw [ByteArray.size_extract]; omega)
        have HM : Hid ((s.extract 1 (s.size - 1)).size ≤ maxLen) := Lib.hid (by have := HI.out; unfold maxLen; omega)
        have HU := Lib.hid hu
        clear hu
        go_enter Try.func40, Try.ntmps40
        go_wp2_with fail
        refine (Text_any _ _ HM.out).mono ?_; rintro e w' ⟨rfl, rfl⟩
        rcases ht : textL (s.extract 1 (s.size - 1)).data.toList with _ | _
        · have HT := Lib.hid (unqIn_not ht)
          clear ht
          go_wp2
          go_ret2
          exact ⟨by rw [HU.out, HT.out]; rfl, Below.refl _ _⟩
        · have HT := Lib.hid (unqIn_text ht)
          clear ht
          go_wp2_with fail
          rcases hr : unescL (s.extract 1 (s.size - 1)).data.toList with _ | r
          · have HR := Lib.hid hr
            clear hr
            refine (unescape_none HI.out HR.out).mono ?_; rintro e w' ⟨rfl, hb⟩
            go_wp2
            go_ret2
            exact ⟨by rw [HU.out, HT.out, HR.out]; rfl, hb⟩
          · have HR := Lib.hid hr
            clear hr
            refine (unescape_some HI.out HR.out).mono ?_; rintro e w' ⟨rfl, hb⟩
            go_wp2
            go_ret2
            exact ⟨by rw [HU.out, HT.out, HR.out]; rfl, hb⟩
      · go_enter Try.func40, Try.ntmps40
        go_wp2
        go_ret2
        exact ⟨by rw [unq_last hq h1]; rfl, Below.refl _ _⟩
    · go_enter Try.func40, Try.ntmps40
      go_wp2
      go_ret2
      exact ⟨by rw [unq_head hp h0]; rfl, Below.refl _ _⟩
end
section
open Go.RowKit
theorem idx_cases (l : List UInt8) (c : UInt8) : Lib.indexByte l c = -1 ∨ ∃ o : Nat, Lib.indexByte l c = (o : Int) ∧ o < l.length := by
  have hg := Lib.indexByte_ge l c
  by_cases h : Lib.indexByte l c = -1
  · exact .inl h
  · refine .inr ⟨(Lib.indexByte l c).toNat, by omega, ?_⟩
    exact (cut_at (l := l) (c := c) (k := (Lib.indexByte l c).toNat) (by omega)).1
def parW (w w' : World) (l : List UInt8) (e : Ending) : Prop := ∃ v, e = .returned (.tuple #[.string (parA l), v, .bool (parO l)]) ∧ OwnP w' w.heap.size v (parB l) ∧ Below w.heap.size w w'
theorem parW_none {w w' : World} {l : List UInt8} (h : parA l = ⟨#[]⟩ ∧ parB l = [] ∧ parO l = false) (hb : Below w.heap.size w w') : parW w w' l (.returned (.tuple #[.string ⟨#[]⟩, .slice none 0 0, .bool false])) := by
  obtain ⟨h1, h2, h3⟩ := h
  exact ⟨_, by rw [h1, h3], by rw [h2]; exact OwnP.nil _ _, hb⟩
end
section
open Go.RowKit
def medW (w w' : World) (o : Option M) (e : Ending) : Prop := ∃ v, e = .returned (.tuple #[.agg #[.string (ofM o).1, .string (ofM o).2.1, v], .bool o.isSome]) ∧ OwnP w' w.heap.size v (ofM o).2.2 ∧ Below w.heap.size w w'
theorem medW_none {w w' : World} {o : Option M} (h : Box (o = none)) (hb : Below w.heap.size w w') : medW w w' o (.returned (.tuple #[.agg #[.string ⟨#[]⟩, .string ⟨#[]⟩, .slice none 0 0], .bool false])) := by
  rw [h.out]
  exact ⟨_, rfl, OwnP.nil _ _, hb⟩
theorem medW_some {w w' : World} {o : Option M} {a b : ByteArray} {L : List F} {v : Value} (h : Box (o = some (a, b, L))) (hO : OwnP w' w.heap.size v L) (hb : Below w.heap.size w w') : medW w w' o (.returned (.tuple #[.agg #[.string a, .string b, v], .bool true])) := by
  rw [h.out]
  exact ⟨_, rfl, hO, hb⟩
theorem star_is {x : ByteArray} {b : Bool} (h : (x.toList == [42]) = b) : (x.data.toList = [42]) ↔ b = true := by
  rw [toList_data] at h
  subst h; simp
theorem parA_size (s : ByteArray) : (parA s.data.toList).size ≤ s.size := by
  obtain ⟨v, ps, hq⟩ := cut_first 59 s.data.toList
  have hsm := cut_small (sep := 59) s.data.toList.length false s.data.toList [] v (by rw [show cutF 59 s.data.toList.length false s.data.toList [] = v :: ps from hq]; simp)
  have hz : s.data.toList.length = s.size := by simp
  simp only [List.length_nil, Nat.zero_add] at hsm
  by_cases ht : trimL v = []
  · rw [(par_none0 hq ht).1]; exact Nat.zero_le _
  · cases hp : parF ps [] with
    | none => rw [(par_none1 hq ht hp).1]; exact Nat.zero_le _
    | some L =>
      rw [(par_some hq ht hp).1, bs_size]
      have := trim_le v
      omega
end
section
open Go.RowKit
theorem c_bd (c : UInt8) : (0 : Int) ≤ (c.toNat : Int) ∧ (c.toNat : Int) ≤ 255 := by have := c.toNat_lt; omega
end
end Go.Proofs.Ytcnohcbhnldglaa.Asc
