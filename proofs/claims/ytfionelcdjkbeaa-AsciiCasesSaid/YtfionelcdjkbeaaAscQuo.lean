/- The contracts of Quote, the program's and the reference's: both return 'quoteL' of the string's bytes. -/
import Derived.Test.YtfionelcdjkbeaaAscOwn
set_option linter.unusedVariables false
set_option linter.unusedSimpArgs false
namespace Go.Proofs.Ytfionelcdjkbeaa.Asc
open Go.RowKit

set_option maxHeartbeats 400000 in
theorem Quote_any (s : ByteArray) (w : World) (hs : s.size ≤ 1073741824) :
    Calls Try.prog 28 #[.string s] w fun e w' => e = .returned (.string ⟨(quoteL s.data.toList).toArray⟩) ∧ Below w.heap.size w w' := by
  obtain ⟨i0, hi0, hz0, hz1, hz2⟩ := info_parts info_u8
  have hmk := fun (w : World) => run_make (P := Try.prog) w 37 5 i0 _ Try.underlying37 hi0 hz0 .i64 .i64 0 (s.size + 2) (by omega) (by omega) (by rw [hz2]; omega) (by omega)
  have e2 : ((s.size : Int) + 2).toNat = s.size + 2 := by omega
  simp only [hz1, Nat.mul_one, e2] at hmk
  clear e2 hz0 hz1 hz2 hi0
  have hO0 : Own (w.alloc (.cells (madeCells #[.int .u8 0] (s.size + 2)) 5)) w.heap.size (.slice (some ⟨w.heap.size, 0, none⟩) 0 (s.size + 2)) [] :=
    ⟨rfl, .inr ⟨_, _, _, rfl, Nat.le_refl _, heap_alloc_new w _, Nat.zero_le _, by unfold maxLen; omega, by simp [size_madeCells], rfl⟩⟩
  have hbel0 : Below w.heap.size w (w.alloc (.cells (madeCells #[.int .u8 0] (s.size + 2)) 5)) := (Below.refl _ _).alloc (Nat.le_refl _) _
  go_enter Try.func28, Try.ntmps28
  go_wp2_with (at_builtin; refine wpList_append_byte _ rfl (.tmp 9) (.tmp 10) rfl w.heap.size _ _ rfl (hO0.alloc _) _ rfl 34 34 (by decide) (by go_simp) (by simp) (by have := (hbel0).size; simp; omega) ?_; intro v0 w0 hO00 hb00; have hb00' := hbel0 |>.alloc (hbel0).size _ |>.trans hb00)
  clear hO0 hmk
  go_loopw [3, 4, 14] (fun v _ i wr => ∃ k : Nat, k ≤ s.size ∧ i = .int .i64 k ∧ Own wr w.heap.size v ([34] ++ escL (s.data.toList.take k)) ∧ Below w.heap.size w wr) (fun _ _ i _ => s.size - (intOf i).toNat)
  case atStart => exact ⟨0, Nat.zero_le _, rfl, by simpa [escL] using hO00, hb00'⟩
  case round =>
    obtain ⟨k, hk, rfl, hO, hbel⟩ := hrel
    have hle := escL_le' s k
    have hl0 : ([34] ++ escL (s.data.toList.take k)).length < 4294967296 := by simp; omega
    clear hle
    by_cases hlt : k < s.size
    · rcases h1 : ((s[k].toNat : Int) == 34) with _ | _
      · rcases h2 : ((s[k].toNat : Int) == 92) with _ | _
        · have HE := Lib.hid (esc_plain hlt h1 h2)
          go_wp2_with (at_builtin; refine wpList_append_byte _ rfl (.tmp 26) (.tmp 30) rfl w.heap.size _ _ rfl (hO.alloc _) _ rfl _ s[k] rfl (by go_simp) (by omega) (by have := (hbel).size; simp; omega) ?_; intro v1 w1 hO1 hb1; have hb1' := hbel |>.alloc (hbel).size _ |>.trans hb1)
          go_roundw
          case rel => exact ⟨k + 1, by omega, by go_num, by rw [HE.out]; simpa using hO1, hb1'⟩
          case measure => simp [intOf]; omega
        ·
          have HE := Lib.hid (esc_b hlt h2)
          go_wp2_with (first | (at_builtin; refine wpList_append_byte _ rfl (.tmp 23) (.tmp 24) rfl w.heap.size _ _ rfl (hO.alloc _) _ rfl 92 92 (by decide) (by go_simp) (by omega) (by have := (hbel).size; simp; omega) ?_; intro v1 w1 hO1 hb1; have hb1' := hbel |>.alloc (hbel).size _ |>.trans hb1) | (at_builtin; refine wpList_append_byte _ rfl (.tmp 26) (.tmp 30) rfl w.heap.size _ _ rfl (hO1.alloc _) _ rfl _ s[k] rfl (by go_simp) (by simp at hl0 ⊢; omega) (by have := (hb1').size; simp; omega) ?_; intro v2 w2 hO2 hb2; have hb2' := hb1' |>.alloc (hb1').size _ |>.trans hb2))
          go_roundw
          case rel => exact ⟨k + 1, by omega, by go_num, by rw [HE.out]; simpa using hO2, hb2'⟩
          case measure => simp [intOf]; omega
      ·
        have HE := Lib.hid (esc_q hlt h1)
        go_wp2_with (first | (at_builtin; refine wpList_append_byte _ rfl (.tmp 23) (.tmp 24) rfl w.heap.size _ _ rfl (hO.alloc _) _ rfl 92 92 (by decide) (by go_simp) (by omega) (by have := (hbel).size; simp; omega) ?_; intro v1 w1 hO1 hb1; have hb1' := hbel |>.alloc (hbel).size _ |>.trans hb1) | (at_builtin; refine wpList_append_byte _ rfl (.tmp 26) (.tmp 30) rfl w.heap.size _ _ rfl (hO1.alloc _) _ rfl _ s[k] rfl (by go_simp) (by simp at hl0 ⊢; omega) (by have := (hb1').size; simp; omega) ?_; intro v2 w2 hO2 hb2; have hb2' := hb1' |>.alloc (hb1').size _ |>.trans hb2))
        go_roundw
        case rel => exact ⟨k + 1, by omega, by go_num, by rw [HE.out]; simpa using hO2, hb2'⟩
        case measure => simp [intOf]; omega
    · go_wp2_with (at_builtin; refine wpList_append_byte _ rfl (.tmp 33) (.tmp 34) rfl w.heap.size _ _ rfl (hO.alloc _) _ rfl 34 34 (by decide) (by go_simp) (by omega) (by have := (hbel).size; simp; omega) ?_; intro v1 w1 hO1 hb1; have hb1' := hbel |>.alloc (hbel).size _ |>.trans hb1; have hst := hO1.str; rw [List.take_of_length_le (by simp; omega)] at hst)
      go_ret
      exact ⟨rfl, hb1'⟩

set_option maxHeartbeats 400000 in
theorem rQuote_any (s : ByteArray) (w : World) (hs : s.size ≤ 1073741824) :
    Calls Try.prog 29 #[.string s] w fun e w' => e = .returned (.string ⟨(quoteL s.data.toList).toArray⟩) ∧ Below w.heap.size w w' := by
  go_enter Try.func29, Try.ntmps29
  go_wp2
  have hO0 : Own (w.alloc (.cells #[.int .u8 34] 5)) w.heap.size (.slice (some ⟨w.heap.size, 0, none⟩) 1 1) [34] :=
    ⟨rfl, .inr ⟨_, _, _, rfl, Nat.le_refl _, heap_alloc_new w _, Nat.le_refl _, by unfold maxLen; omega, rfl, rfl⟩⟩
  go_loopw [3, 4] (fun v i wr => ∃ k : Nat, k ≤ s.size ∧ i = .int .i64 k ∧ Own wr w.heap.size v ([34] ++ escL (s.data.toList.take k)) ∧ Below w.heap.size w wr) (fun _ i _ => s.size - (intOf i).toNat)
  case atStart => exact ⟨0, Nat.zero_le _, rfl, by simpa [escL] using hO0, (Below.refl _ _).alloc (Nat.le_refl _) _⟩
  case round =>
    obtain ⟨k, hk, rfl, hO, hbel⟩ := hrel
    have hle := escL_le' s k
    have hl0 : ([34] ++ escL (s.data.toList.take k)).length < 4294967296 := by simp; omega
    clear hle
    by_cases hlt : k < s.size
    · rcases h1 : ((s[k].toNat : Int) == 34) with _ | _
      · rcases h2 : ((s[k].toNat : Int) == 92) with _ | _
        · have HE := Lib.hid (esc_plain hlt h1 h2)
          go_wp2_with (at_builtin; refine wpList_append_byte _ rfl (.tmp 25) (.tmp 29) rfl w.heap.size _ _ rfl (hO.alloc _) _ rfl _ s[k] rfl (by go_simp) (by omega) (by have := (hbel).size; simp; omega) ?_; intro v1 w1 hO1 hb1; have hb1' := hbel |>.alloc (hbel).size _ |>.trans hb1)
          go_roundw
          case rel => exact ⟨k + 1, by omega, by go_num, by rw [HE.out]; simpa using hO1, hb1'⟩
          case measure => simp [intOf]; omega
        ·
          have HE := Lib.hid (esc_b hlt h2)
          go_wp2_with (first | (at_builtin; refine wpList_append_byte _ rfl (.tmp 22) (.tmp 23) rfl w.heap.size _ _ rfl (hO.alloc _) _ rfl 92 92 (by decide) (by go_simp) (by omega) (by have := (hbel).size; simp; omega) ?_; intro v1 w1 hO1 hb1; have hb1' := hbel |>.alloc (hbel).size _ |>.trans hb1) | (at_builtin; refine wpList_append_byte _ rfl (.tmp 25) (.tmp 29) rfl w.heap.size _ _ rfl (hO1.alloc _) _ rfl _ s[k] rfl (by go_simp) (by simp at hl0 ⊢; omega) (by have := (hb1').size; simp; omega) ?_; intro v2 w2 hO2 hb2; have hb2' := hb1' |>.alloc (hb1').size _ |>.trans hb2))
          go_roundw
          case rel => exact ⟨k + 1, by omega, by go_num, by rw [HE.out]; simpa using hO2, hb2'⟩
          case measure => simp [intOf]; omega
      ·
        have HE := Lib.hid (esc_q hlt h1)
        go_wp2_with (first | (at_builtin; refine wpList_append_byte _ rfl (.tmp 22) (.tmp 23) rfl w.heap.size _ _ rfl (hO.alloc _) _ rfl 92 92 (by decide) (by go_simp) (by omega) (by have := (hbel).size; simp; omega) ?_; intro v1 w1 hO1 hb1; have hb1' := hbel |>.alloc (hbel).size _ |>.trans hb1) | (at_builtin; refine wpList_append_byte _ rfl (.tmp 25) (.tmp 29) rfl w.heap.size _ _ rfl (hO1.alloc _) _ rfl _ s[k] rfl (by go_simp) (by simp at hl0 ⊢; omega) (by have := (hb1').size; simp; omega) ?_; intro v2 w2 hO2 hb2; have hb2' := hb1' |>.alloc (hb1').size _ |>.trans hb2))
        go_roundw
        case rel => exact ⟨k + 1, by omega, by go_num, by rw [HE.out]; simpa using hO2, hb2'⟩
        case measure => simp [intOf]; omega
    · go_wp2_with (at_builtin; refine wpList_append_byte _ rfl (.tmp 31) (.tmp 32) rfl w.heap.size _ _ rfl (hO.alloc _) _ rfl 34 34 (by decide) (by go_simp) (by omega) (by have := (hbel).size; simp; omega) ?_; intro v1 w1 hO1 hb1; have hb1' := hbel |>.alloc (hbel).size _ |>.trans hb1; have hst := hO1.str; rw [List.take_of_length_le (by simp; omega)] at hst)
      go_ret
      exact ⟨rfl, hb1'⟩

end Go.Proofs.Ytfionelcdjkbeaa.Asc
