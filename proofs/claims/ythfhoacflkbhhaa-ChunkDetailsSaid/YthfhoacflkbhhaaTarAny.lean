/- The contract of strings.IndexAny at a slash and a question mark, for every string. -/
import Derived.Test.YthfhoacflkbhhaaTarDec
import Derived.Test.YthfhoacflkbhhaaTarSet
import Derived.Lib.AsciiSet
import Derived.Deep.WholeRow
import Derived.Laws.Tables
import Derived.Deep.LoopGhost
import Derived.WalkMore
import Derived.Laws.Strings3
import Derived.Laws.ResultCell
import Derived.Lib.Strings
import Derived.IntWalk
set_option linter.unusedVariables false
set_option linter.unusedSimpArgs false
namespace Go.Proofs.Ythfhoacflkbhhaa.Asc
open Go.RowKit

theorem sIndexByte_any (s : ByteArray) (c : Int) (w : World) :
    Calls Try.prog 46 #[.string s, .int .u8 c] w fun e w' => e = .returned (.int .i64 (Lib.indexByte s.data.toList c.toNat.toUInt8)) ∧ w = w' := by
  go_enter Try.func46, Try.ntmps46
  go_wp2_with fail
  refine (IndexByte_any s c _).mono ?_; rintro e w1 ⟨rfl, rfl⟩
  go_wp2
  go_ret
  exact ⟨rfl, rfl⟩
set_option maxRecDepth 1000000 in
set_option maxHeartbeats 2000000 in
theorem sIndexRune_ascii (s : ByteArray) (c : UInt8) (w : World) (hc : c.toNat < 128) :
    Calls Try.prog 38 #[.string s, .int .i32 c.toNat] w fun e w' => e = .returned (.int .i64 (Lib.indexByte s.data.toList c)) ∧ w = w' := by
  have hci : (c.toNat : Int) < 128 := by omega
  have hback : ((c.toNat : Int)).toNat.toUInt8 = c := by simp
  have HB := box hback
  clear hback
  go_enter Try.func38, Try.ntmps38
  go_wp2_with fail
  refine (sIndexByte_any s _ _).mono ?_; rintro e w1 ⟨rfl, rfl⟩; rw [HB.out]
  go_wp2
  (try rw [Exit.noGoto_ret])
  go_ret
  exact ⟨rfl, rfl⟩
theorem sShould_any (n : Int) (w : World) :
    Calls Try.prog 39 #[.int .i64 n] w fun e w' => e = .returned (.bool (decide (8 < n))) ∧ w = w' := by
  go_enter Try.func39, Try.ntmps39
  go_wp2
  go_ret
  exact ⟨rfl, rfl⟩

theorem below_iter (w : World) (s : ByteArray) (p : Nat) : Below w.heap.size w (w.iter s p) := (Below.refl _ _).alloc (Nat.le_refl _) _
theorem idx_empty (c : Int) (w : World) :
    Calls Try.prog 46 #[.string ByteArray.empty, .int .u8 c] w fun e w' => e = .returned (.int .i64 (-1)) ∧ w = w' :=
  (sIndexByte_any ByteArray.empty c w).mono fun e w' ⟨h1, h2⟩ => ⟨by rw [h1]; rfl, h2⟩
set_option maxRecDepth 1000000 in
set_option maxHeartbeats 4000000 in
theorem sIndexRune_error (w : World) :
    Calls Try.prog 38 #[.string endsS, .int .i32 65533] w fun e w' => e = .returned (.int .i64 (-1)) ∧ Below w.heap.size w w' := by
  have hz : endsS.size = 2 := rfl
  go_enter Try.func38, Try.ntmps38
  go_wp2
  go_loopg [5, 6] 2 (fun g _ _ wx => ∃ i : Nat, i + g = 2 ∧ wx = w.iter endsS i)
  case atStart => exact ⟨0, by omega, rfl⟩
  case round =>
    obtain ⟨i, hig, rfl⟩ := hrel
    cases gk with
    | zero =>
      obtain rfl : i = 2 := by omega
      have hnx := fun ty => run_next_end (P := Try.prog) w endsS 2 ty (by rw [hz]; omega)
      go_wp2
      (try rw [Exit.noGoto_ret])
      go_ret
      exact ⟨rfl, below_iter _ _ _⟩
    | succ g =>
      have hi : i < endsS.size := by omega
      obtain ⟨x, hx⟩ : ∃ x : UInt8, endsS[i]'hi = x := ⟨_, rfl⟩
      have hx128 : x.toNat < 128 := by
        match i, hi, hx with
        | 0, _, h => have e : x = 47 := h.symm; rw [e]; decide
        | 1, _, h => have e : x = 63 := h.symm; rw [e]; decide
      have hnx := fun ty => run_next_ascii (P := Try.prog) w endsS i ty hi (by rw [hx]; exact hx128)
      rw [hx] at hnx
      have hne : ((x.toNat : Int) == 65533) = false := by rw [beq_eq_false_iff_ne]; omega
      go_wp2
      go_roundg g
      case measure => omega
      case rel => exact ⟨i + 1, by omega, rfl⟩
theorem valid_any (r : Int) (w : World) (hv : Box (Utf8.valid r = true)) (h0 : 128 ≤ r) (h1 : r ≤ 1114111) :
    Calls Try.prog 51 #[.int .i32 r] w fun e w' => e = .returned (.bool true) ∧ w = w' := by
  have hr : r < 55296 ∨ 57343 < r := by
    have := hv.out
    simp only [Utf8.valid] at this
    simp at this; omega
  rcases hr with hr | hr
  · go_enter Try.func51, Try.ntmps51
    go_wp2
    go_ret
    exact ⟨rfl, rfl⟩
  · go_enter Try.func51, Try.ntmps51
    go_wp2
    go_ret
    exact ⟨rfl, rfl⟩
set_option maxRecDepth 1000000 in
set_option maxHeartbeats 4000000 in
theorem sIndexRune_two (r : Int) (w : World) (hv : Box (Utf8.valid r = true)) (h0 : 128 ≤ r) (h1 : r ≤ 1114111) (hne : (r == 65533) = false) (rs : ByteArray) (HR : Box (Utf8.encode r = rs)) (hlt : 1 < rs.size) (H2 : Box (rs.size = 2)) (h128 : 128 ≤ (rs[1]'hlt).toNat) :
    Calls Try.prog 38 #[.string endsS, .int .i32 r] w fun e w' => e = .returned (.int .i64 (-1)) ∧ Below w.heap.size w w' := by
  have hz : endsS.size = 2 := rfl
  go_enter Try.func38, Try.ntmps38
  go_wp2_with fail
  refine (valid_any r _ hv h0 h1).mono ?_; rintro e w1 ⟨rfl, rfl⟩
  go_wp2
  go_step3
  go_wp2
  rw [HR.out]
  have h2 := H2.out
  have hs1 : (2 : Int) ≤ (rs.size : Int) := by omega
  have hs2 : (rs.size : Int) ≤ 4 := by omega
  have hi1 : (1 : Int) < (rs.size : Int) := by omega
  have E1 : Box (wrap64 ((rs.size : Int) - 1) = 1) := box (by have e : (rs.size : Int) - 1 = 1 := by omega
                                                              rw [e]; exact IntWalk.wrap64_in 1 (by omega))
  obtain ⟨x, hx⟩ : ∃ x : UInt8, rs[1]'hlt = x := ⟨_, rfl⟩
  rw [hx] at h128
  have h12 : 1 < endsS.size := by rw [hz]; omega
  have hq : ((endsS[1]'h12).toNat : Int) != ((rs[1]'hlt).toNat : Int) := by
    rw [bne_iff_ne, hx, show (endsS[1]'h12).toNat = 63 from rfl]; omega
  have HX := box hx
  clear h2 hx
  go_wp2
  rw [E1.out]
  go_loopw [9] (fun i wr => i = .int .i64 1 ∧ wr = w) (fun _ _ => 0)
  case atStart => exact ⟨rfl, rfl⟩
  case round =>
    obtain ⟨rfl, rfl⟩ := hrel
    go_wp2
    go_step3
    go_wp2
    go_quiet (fail)
    go_wp2
    go_quiet ((go_at_call 46; exact (idx_empty _ _).mono fun e w' ⟨h1, h2⟩ => ⟨h1, _, h2.symm⟩))
    go_wp2
    (try simp +zetaDelta only [Exit.noGoto_ret, Exit.inBlock, Exit.then])
    go_ret
    exact ⟨rfl, below_drewN _ _⟩
set_option maxRecDepth 1000000 in
set_option maxHeartbeats 4000000 in
theorem sIndexRune_more (r : Int) (w : World) (hv : Box (Utf8.valid r = true)) (h0 : 128 ≤ r) (h1 : r ≤ 1114111) (hne : (r == 65533) = false) (rs : ByteArray) (HR : Box (Utf8.encode r = rs)) (m : Nat) (H2 : Box (rs.size = m + 1)) (hm : 2 ≤ m) (hm4 : m ≤ 4) :
    Calls Try.prog 38 #[.string endsS, .int .i32 r] w fun e w' => e = .returned (.int .i64 (-1)) ∧ Below w.heap.size w w' := by
  have hz : endsS.size = 2 := rfl
  have h2 := H2.out
  have E1 : Box (wrap64 ((rs.size : Int) - 1) = (m : Int)) := box (by have e : (rs.size : Int) - 1 = (m : Int) := by omega
                                                                      rw [e]; exact IntWalk.wrap64_in _ (by omega))
  have hmi : (2 : Int) ≤ (m : Int) := by omega
  clear h2
  go_enter Try.func38, Try.ntmps38
  go_wp2_with fail
  refine (valid_any r _ hv h0 h1).mono ?_; rintro e w1 ⟨rfl, rfl⟩
  go_wp2
  go_step3
  go_wp2
  rw [HR.out]
  go_wp2
  rw [E1.out]
  go_loopw [9] (fun i wr => i = .int .i64 m ∧ wr = w) (fun _ _ => 0)
  case atStart => exact ⟨rfl, rfl⟩
  case round =>
    obtain ⟨rfl, rfl⟩ := hrel
    go_wp2
    (try simp only [Exit.noGoto_ret, Exit.inBlock, Exit.then])
    go_ret
    exact ⟨rfl, Below.refl _ _⟩
theorem sIndexRune_high (r : Int) (w : World) (hv : Box (Utf8.valid r = true)) (h0 : 128 ≤ r) (h1 : r ≤ 1114111) :
    Calls Try.prog 38 #[.string endsS, .int .i32 r] w fun e w' => e = .returned (.int .i64 (-1)) ∧ Below w.heap.size w w' := by
  rcases hne : (r == 65533) with _ | _
  · obtain ⟨f1, f2, f3⟩ := encode_facts r hv.out h0
    by_cases h2 : (Utf8.encode r).size = 2
    · have hlt : 1 < (Utf8.encode r).size := by omega
      refine sIndexRune_two r w hv h0 h1 hne _ (box rfl) hlt (box h2) ?_
      have := f3 (by omega)
      have e : (Utf8.encode r).size - 1 = 1 := by omega
      simp only [e] at this
      exact this
    · exact sIndexRune_more r w hv h0 h1 hne _ (box rfl) ((Utf8.encode r).size - 1) (box (by omega)) (by omega) (by omega)
  · obtain rfl : r = 65533 := by simpa using hne
    exact sIndexRune_error w

end Go.Proofs.Ythfhoacflkbhhaa.Asc
