/- The contracts of Number, the program's and the reference's, and of appendDigit. -/
import Derived.Test.YtlcojfkkeommoaaAscBytes
import Derived.Test.YtlcojfkkeommoaaAscTok
import Derived.Test.YtlcojfkkeommoaaAscSpec2
import Derived.LoopTactic
import Derived.Lib.Hide
set_option linter.unusedVariables false
set_option linter.unusedSimpArgs false
set_option maxRecDepth 100000
namespace Go.Proofs.Ytlcojfkkeommoaa.Asc
open Go.RowKit

def numT (o : Option Int) : Value := .tuple #[.int .i64 (numV o).1, .bool (numV o).2]
theorem numT_of {o : Option Int} {a : Int} {b : Bool} (h : numV o = (a, b)) : Ending.returned (.tuple #[.int .i64 a, .bool b]) = .returned (numT o) := by
  unfold numT; rw [h]

theorem appendDigit_any (v d : Int) (w : World) (h0 : 0 ≤ v) (h1 : v ≤ 2147483647) (h2 : 0 ≤ d) (h3 : d ≤ 9) :
    Calls Try.prog 61 #[.int .i64 v, .int .i64 d] w fun e w' => e = .returned (.int .i64 (satI v d)) ∧ w = w' := by
  go_enter Try.func61, Try.ntmps61
  go_wp2
  all_goals (go_ret; exact ⟨ret_int (by unfold satI; split <;> omega), rfl⟩)

theorem Number_any (s : ByteArray) (w : World) (hs : s.size ≤ maxLen) :
    Calls Try.prog 50 #[.string s] w fun e w' => e = .returned (numT (numL s.data.toList)) ∧ w = w' := by
  unfold maxLen at hs
  go_enter Try.func50, Try.ntmps50
  go_wp2
  go_loop [4, 5, 8] (fun v _ i => ∃ k : Nat, k ≤ s.size ∧ i = .int .i64 k ∧ v = .int .i64 (numF (s.data.toList.take k)) ∧ 0 ≤ numF (s.data.toList.take k) ∧ numF (s.data.toList.take k) ≤ 2147483647 ∧ allI digitI (s.data.toList.take k) = true) (fun _ _ i => s.size - (intOf i).toNat)
  case atStart => exact ⟨0, Nat.zero_le _, rfl, rfl, by simp [numF], by simp [numF], rfl⟩
  case round =>
    obtain ⟨k, hk, rfl, rfl, hn0, hn1, hall⟩ := hrel
    by_cases hlt : k < s.size
    · have hb := byte_bd s k hlt
      rcases hp : digitI (s[k].toNat) with _ | _
      · go_wp2_with (go_at_call 60; refine (isDigit_any _ _ hb.1 hb.2).mono ?_; rintro e w' ⟨rfl, rfl⟩)
        go_ret2
        exact ⟨numT_of (by rw [num_not hlt hp]; rfl), rfl⟩
      · have hd := digitI_bd hp
        have HM := Lib.hid (numF_more hlt)
        have HB := satI_bd (v := numF (s.data.toList.take k)) (d := (s[k].toNat : Int) - 48) hn0 (by omega)
        rw [← HM.out] at HB
        have HBB := Lib.hid HB
        have HA := Lib.hid (all_more hall hlt hp)
        have HH := Lib.hid hall
        clear HB hall
        go_wp2_with (first | (go_at_call 60; refine (isDigit_any _ _ hb.1 hb.2).mono ?_; rintro e w' ⟨rfl, rfl⟩) | (go_at_call 61; refine (appendDigit_any _ _ _ hn0 hn1 (by omega) (by omega)).mono ?_; rintro e w' ⟨rfl, rfl⟩))
        go_round
        case rel => exact ⟨k + 1, by omega, by go_num, by rw [HM.out], HBB.out.1, HBB.out.2, HA.out⟩
        case measure => simp [intOf]; omega
    · go_wp2
      go_ret2
      exact ⟨numT_of (num_end hall (by omega)), rfl⟩

theorem rNumber_any (s : ByteArray) (w : World) (hs : s.size ≤ maxLen) :
    Calls Try.prog 40 #[.string s] w fun e w' => e = .returned (numT (numL s.data.toList)) ∧ w = w' := by
  unfold maxLen at hs
  go_enter Try.func40, Try.ntmps40
  go_wp2
  go_loop [4, 5] (fun v i => ∃ k : Nat, k ≤ s.size ∧ i = .int .i64 k ∧ v = .int .i64 (numF (s.data.toList.take k)) ∧ 0 ≤ numF (s.data.toList.take k) ∧ numF (s.data.toList.take k) ≤ 2147483647 ∧ allI digitI (s.data.toList.take k) = true) (fun _ i => s.size - (intOf i).toNat)
  case atStart => exact ⟨0, Nat.zero_le _, rfl, rfl, by simp [numF], by simp [numF], rfl⟩
  case round =>
    obtain ⟨k, hk, rfl, rfl, hn0, hn1, hall⟩ := hrel
    by_cases hlt : k < s.size
    · have hb := byte_bd s k hlt
      rcases hp : digitI (s[k].toNat) with _ | _
      · go_wp2_with (go_at_call 53; refine (rDigit_any _ _ hb.1 hb.2).mono ?_; rintro e w' ⟨rfl, rfl⟩)
        go_ret2
        exact ⟨numT_of (by rw [num_not hlt hp]; rfl), rfl⟩
      · have hd := digitI_bd hp
        have HM := Lib.hid (numF_more hlt)
        have HB := satI_bd (v := numF (s.data.toList.take k)) (d := (s[k].toNat : Int) - 48) hn0 (by omega)
        rw [← HM.out] at HB
        have HBB := Lib.hid HB
        have HA := Lib.hid (all_more hall hlt hp)
        have HH := Lib.hid hall
        clear HB hall
        by_cases hbig : numF (s.data.toList.take k) * 10 + ((s[k].toNat : Int) - 48) > 2147483647
        · go_wp2_with (go_at_call 53; refine (rDigit_any _ _ hb.1 hb.2).mono ?_; rintro e w' ⟨rfl, rfl⟩)
          go_round
          case rel => exact ⟨k + 1, by omega, by go_num, by rw [HM.out, satI, if_pos (by omega)], HBB.out.1, HBB.out.2, HA.out⟩
          case measure => simp [intOf]; omega
        · go_wp2_with (go_at_call 53; refine (rDigit_any _ _ hb.1 hb.2).mono ?_; rintro e w' ⟨rfl, rfl⟩)
          go_round
          case rel => exact ⟨k + 1, by omega, by go_num, by rw [HM.out, satI, if_neg (by omega)], HBB.out.1, HBB.out.2, HA.out⟩
          case measure => simp [intOf]; omega
    · go_wp2
      go_ret2
      exact ⟨numT_of (num_end hall (by omega)), rfl⟩
end Go.Proofs.Ytlcojfkkeommoaa.Asc
