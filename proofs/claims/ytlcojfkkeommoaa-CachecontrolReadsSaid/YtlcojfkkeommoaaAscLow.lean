/- The contracts of Lower, the program's and the reference's: both return 'lowL' of the string's bytes. -/
import Derived.Test.YtlcojfkkeommoaaAscOwn
import Derived.LoopTactic
import Derived.Lib.Hide
set_option linter.unusedVariables false
set_option linter.unusedSimpArgs false
set_option maxRecDepth 100000
namespace Go.Proofs.Ytlcojfkkeommoaa.Asc
open Go.RowKit

theorem Lower_any (s : ByteArray) (w : World) (hs : s.size ≤ 4294967296) :
    Calls Try.prog 49 #[.string s] w fun e w' => e = .returned (.string ⟨(lowL s.data.toList).toArray⟩) ∧ Below w.heap.size w w' := by
  obtain ⟨i0, hi0, hz0, hz1, hz2⟩ := info_parts info_u8
  have hmk := fun (w : World) => run_make (P := Try.prog) w 48 5 i0 _ Try.underlying48 hi0 hz0 .i64 .i64 s.size s.size (by omega) (by omega) (by rw [hz2]; omega) (by omega)
  simp only [Int.toNat_natCast, hz1, Nat.mul_one] at hmk
  go_enter Try.func49, Try.ntmps49
  go_wp2
  have hr : (List.replicate s.size (0 : UInt8)).length = s.data.toList.length := by simp
  have hB0 : Bys (w.alloc (.cells (madeCells #[.int .u8 0] s.size) 5)) w.heap.size (half (List.replicate s.size (0 : UInt8)) s.data.toList 0) := by
    rw [half_zero]
    refine ⟨by simp, fun j hj => ?_⟩
    rw [List.length_replicate] at hj
    refine ⟨?_, by go_simp⟩
    rw [World.cell?_alloc_at (hn := rfl), ← Array.getElem?_toList, toList_madeCells_one]
    simp [hj, bv, List.getD_eq_getElem?_getD, List.getElem?_replicate]
  go_loopw [4, 10] (fun u i wr => ∃ k : Nat, k ≤ s.size ∧ i = .int .i64 k ∧ Bys wr w.heap.size (half (List.replicate s.size (0 : UInt8)) s.data.toList k) ∧ Below w.heap.size w wr) (fun _ i _ => s.size - (intOf i).toNat)
  case atStart => exact ⟨0, Nat.zero_le _, rfl, hB0, ((Below.refl _ _).alloc (Nat.le_refl _) _)⟩
  case round =>
    obtain ⟨k, hk, rfl, hB, hbel⟩ := hrel
    clear hB0 hmk
    have hz := size_list s
    by_cases hlt : k < s.size
    · have hlt' : k < s.data.toList.length := by omega
      have hlh := half_length _ _ k hr
      obtain ⟨cv, hc⟩ : ∃ cv, wr.cell? ⟨w.heap.size, k, none⟩ = some cv := ⟨_, hB.cell (by omega)⟩
      have hf : wr.frozen? ⟨w.heap.size, k, none⟩ = false := hB.frozen (by omega)
      have hb := byte_bd s k hlt
      have hset := hB.set (k := k) (by omega) (lowB s[k])
      rw [half_step _ _ k hr hlt' s[k] rfl, bv_low] at hset
      have hbs := hbel.setCell (p := ⟨w.heap.size, k, none⟩) (Nat.le_refl _) (.int .u8 (lowI s[k].toNat))
      have HS := Lib.hid hset
      have HB := Lib.hid hbs
      clear hset hbs hz hr hlh
      go_wp2_with (go_at_call 56; refine (lowerByte_any _ _ hb.1 hb.2).mono ?_; rintro e w' ⟨rfl, rfl⟩)
      go_roundw
      case rel => exact ⟨k + 1, by omega, by go_num, HS.out, HB.out⟩
      case measure => simp [intOf]; omega
    · have hst := hB.str (P := Try.prog) 48 9 5 s.size s.size (by rw [half_length _ _ k hr, hz]) Try.underlying48 Try.underlying5 Try.underlying9
      rw [half_end _ _ k hr (by omega)] at hst
      clear hz hr
      go_wp2
      go_ret
      exact ⟨rfl, hbel⟩

theorem rLower_any (s : ByteArray) (w : World) (hs : s.size ≤ 4294967296) :
    Calls Try.prog 31 #[.string s] w fun e w' => e = .returned (.string ⟨(lowL s.data.toList).toArray⟩) ∧ Below w.heap.size w w' := by
  have hcv := fun (w : World) => run_bytes_of_string (P := Try.prog) w 9 48 5 s Try.underlying9 Try.underlying48 Try.underlying5
  go_enter Try.func31, Try.ntmps31
  go_wp2
  have hB0 : Bys (w.alloc (.cells (bytesRow s (grownCap w s.size 0 5)) 5 ((bytesRow s (grownCap w s.size 0 5)).size, (bytesRow s (grownCap w s.size 0 5)).size + 1))).drew w.heap.size (half s.data.toList s.data.toList 0) := by
    rw [half_zero]
    refine (Bys.new w _ _ _ _ _ ?_ ?_).drew
    · simp [bytesRow]
    · intro j hj
      rw [bytesRow_at s _ j (by simpa using hj), getD_get _ _ hj]; rfl
  go_loopw [4] (fun i wr => ∃ k : Nat, k ≤ s.size ∧ i = .int .i64 k ∧ Bys wr w.heap.size (half s.data.toList s.data.toList k) ∧ Below w.heap.size w wr) (fun i _ => s.size - (intOf i).toNat)
  case atStart => exact ⟨0, Nat.zero_le _, rfl, hB0, ((Below.refl _ _).alloc (Nat.le_refl _) _).drew⟩
  case round =>
    obtain ⟨k, hk, rfl, hB, hbel⟩ := hrel
    clear hB0 hcv
    have hz := size_list s
    by_cases hlt : k < s.size
    · have hlt' : k < s.data.toList.length := by omega
      have hlh := half_length s.data.toList s.data.toList k rfl
      have hc : wr.cell? ⟨w.heap.size, k, none⟩ = some (.int .u8 (s[k].toNat : Int)) := by
        have := hB.cell (j := k) (by omega)
        rw [half_get _ _ k rfl hlt', data_at s k hlt] at this; exact this
      have hf : wr.frozen? ⟨w.heap.size, k, none⟩ = false := hB.frozen (by omega)
      have hb := byte_bd s k hlt
      have hset := hB.set (k := k) (by omega) (lowB s[k])
      rw [half_step _ _ k rfl hlt' s[k] rfl, bv_low] at hset
      have hsame : lowI s[k].toNat = s[k].toNat → Bys wr w.heap.size (half s.data.toList s.data.toList (k + 1)) := fun h => by
        have e := half_step s.data.toList s.data.toList k rfl hlt' s[k] rfl
        rw [← e]
        rw [lowB_same h]
        have h3 : (half s.data.toList s.data.toList k).set k s[k] = half s.data.toList s.data.toList k := by
          apply List.ext_getElem?; intro j
          by_cases ej : k = j
          · subst ej
            have h4 := half_get s.data.toList s.data.toList k rfl hlt'
            rw [data_at s k hlt, getD_get _ _ (by omega)] at h4
            rw [List.getElem?_set_self (by omega), List.getElem?_eq_getElem (by omega), h4]
          · rw [List.getElem?_set_ne ej]
        rw [h3]; exact hB
      have hbs := hbel.setCell (p := ⟨w.heap.size, k, none⟩) (Nat.le_refl _) (.int .u8 (lowI s[k].toNat))
      have HS := Lib.hid hset
      have HB := Lib.hid hbs
      have HM := Lib.hid hsame
      clear hset hbs hz hlh hsame
      go_wp2
      · go_roundw
        case rel =>
          have el : lowI s[k].toNat = s[k].toNat + 32 := by unfold lowI; rw [if_pos ⟨‹_›, ‹_›⟩]
          have h1 := HS.out; have h2 := HB.out
          rw [el] at h1 h2
          exact ⟨k + 1, by omega, by go_num, h1, h2⟩
        case measure => simp [intOf]; omega
      all_goals
        go_roundw
        case rel => exact ⟨k + 1, by omega, by go_num, HM.out (by unfold lowI; rw [if_neg (by omega)]), hbel⟩
        case measure => simp [intOf]; omega
    · have hst := fun cap => hB.str (P := Try.prog) 48 9 5 s.size cap (by rw [half_length _ _ k rfl, hz]) Try.underlying48 Try.underlying5 Try.underlying9
      rw [half_end _ _ k rfl (by omega)] at hst
      clear hz
      go_wp2
      go_ret
      exact ⟨rfl, hbel⟩
end Go.Proofs.Ytlcojfkkeommoaa.Asc
