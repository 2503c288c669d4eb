/- The contracts of the reference's letter, Hex and Authority. -/
import Derived.Test.YthfhoacflkbhhaaTarUri
import Derived.Test.YthfhoacflkbhhaaStaCut
import Derived.Test.YthfhoacflkbhhaaAscLow
import Derived.Test.YthfhoacflkbhhaaAscNum
set_option linter.unusedVariables false
set_option linter.unusedSimpArgs false
namespace Go.Proofs.Ythfhoacflkbhhaa.Asc
open Go.RowKit

theorem rHex_any (c : UInt8) (w : World) :
    Calls Try.prog 35 #[.int .u8 c.toNat] w fun e w' => e = .returned (.int .i64 (hexI c.toNat)) ∧ w = w' := by
  have hc := c.toNat_lt
  go_enter Try.func35, Try.ntmps35
  go_wp2_with (go_at_call 50; refine (rDigit_any _ _ (by omega) (by omega)).mono ?_; rintro e w1 ⟨rfl, rfl⟩)
  · have hd : digitI c.toNat = true := by assumption
    have hb := digitI_bd hd
    go_ret
    exact ⟨ret_int (by unfold hexI; rw [if_pos hd]; omega), rfl⟩
  all_goals
    have hd : digitI c.toNat = false := by assumption
    go_ret
    exact ⟨ret_int (by unfold hexI; rw [hd]; simp only [Bool.false_eq_true, if_false]; split <;> (try split) <;> omega), rfl⟩

def authV : Option (List UInt8 × Int) → Value
  | none => .tuple #[.string ⟨#[]⟩, .int .i64 0, .bool false]
  | some (x, n) => .tuple #[.string (bs x), .int .i64 n, .bool true]
theorem ret_auth {a b : Option (List UInt8 × Int)} (h : a = b) : Ending.returned (authV a) = .returned (authV b) := by rw [h]
theorem auth_port {l : List UInt8} (h : portL (cut2 58 l) = none) : authL l = none := by unfold authL; rw [h]
theorem auth_bad {l : List UInt8} (h : hostOk (cut1 58 l) = false) : authL l = none := by
  unfold authL
  split
  · rw [if_neg (by rw [h]; simp)]
  · rfl
theorem auth_good {l : List UInt8} {n : Int} (hp : portL (cut2 58 l) = some n) (h : hostOk (cut1 58 l) = true) : authL l = some (lowL (cut1 58 l), n) := by
  unfold authL; rw [hp]; simp only [h, if_true]
theorem hostOk_not {s : ByteArray} {k : Nat} (hk : k < s.size) (hp : hostI (s[k].toNat) = false) : hostOk s.data.toList = false := by
  unfold hostOk; rw [all_not hk hp]; simp
theorem hostOk_end {s : ByteArray} {k : Nat} (h : allI hostI (s.data.toList.take k) = true) (hk : s.size ≤ k) : hostOk s.data.toList = !s.toList.isEmpty := by
  unfold hostOk; rw [all_end h hk, toList_data]; simp
end Go.Proofs.Ythfhoacflkbhhaa.Asc
