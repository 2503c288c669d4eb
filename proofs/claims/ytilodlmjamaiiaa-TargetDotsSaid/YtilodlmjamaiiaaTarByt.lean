/- The contracts of package target's functions of one byte. -/
import Derived.Test.YtilodlmjamaiiaaTarRef
import Derived.Test.YtilodlmjamaiiaaStaVer
set_option linter.unusedVariables false
set_option linter.unusedSimpArgs false
namespace Go.Proofs.Ytilodlmjamaiiaa.Asc
open Go.RowKit

theorem tLetterDigit_any (c : UInt8) (w : World) :
    Calls Try.prog 64 #[.int .u8 c.toNat] w fun e w' => e = .returned (.bool (alnumI c.toNat)) ∧ w = w' := by
  have hc := c.toNat_lt
  go_enter Try.func64, Try.ntmps64
  go_wp2
  all_goals (go_ret; exact ⟨ret_bool (by rw [Bool.eq_iff_iff]; simp [alnumI, letterI, digitI] <;> omega), rfl⟩)
theorem tVisible_any (c : UInt8) (w : World) :
    Calls Try.prog 35 #[.int .u8 c.toNat] w fun e w' => e = .returned (.bool (visI c.toNat)) ∧ w = w' := by
  have hc := c.toNat_lt
  go_enter Try.func35, Try.ntmps35
  go_wp2
  all_goals (go_ret; exact ⟨ret_bool (by rw [Bool.eq_iff_iff]; simp [visI] <;> omega), rfl⟩)
theorem tHostByte_any (c : UInt8) (w : World) :
    Calls Try.prog 47 #[.int .u8 c.toNat] w fun e w' => e = .returned (.bool (hostI c.toNat)) ∧ w = w' := by
  have hc := c.toNat_lt
  go_enter Try.func47, Try.ntmps47
  go_wp2_with (go_at_call 64; refine (tLetterDigit_any _ _).mono ?_; rintro e w' ⟨rfl, rfl⟩)
  all_goals (go_ret; exact ⟨ret_bool (by simp [hostI, *]), rfl⟩)
theorem tUnreserved_any (c : UInt8) (w : World) :
    Calls Try.prog 51 #[.int .u8 c.toNat] w fun e w' => e = .returned (.bool (unresI c.toNat)) ∧ w = w' := by
  have hc := c.toNat_lt
  go_enter Try.func51, Try.ntmps51
  go_wp2_with (go_at_call 64; refine (tLetterDigit_any _ _).mono ?_; rintro e w' ⟨rfl, rfl⟩)
  all_goals (go_ret; exact ⟨ret_bool (by simp [unresI, *]), rfl⟩)
/-- a hexadecimal digit's value, and whether it is one -/
def hexV (c : UInt8) : Value := .tuple #[.int .u8 (if hexB c = true then hexI c.toNat else 0), .bool (hexB c)]
theorem tHex_any (c : UInt8) (w : World) :
    Calls Try.prog 50 #[.int .u8 c.toNat] w fun e w' => e = .returned (hexV c) ∧ w = w' := by
  have hc := c.toNat_lt
  by_cases h1 : 48 ≤ (c.toNat : Int) ∧ (c.toNat : Int) ≤ 57
  · have HE : Box (hexB c = true ∧ hexI c.toNat = (c.toNat : Int) - 48) := box (by
      have hd : digitI (c.toNat : Int) = true := by simp [digitI]; omega
      have hv : hexI (c.toNat : Int) = (c.toNat : Int) - 48 := by unfold hexI; rw [if_pos hd]
      exact ⟨by unfold hexB; rw [hv]; simp; omega, hv⟩)
    obtain ⟨h1, h2⟩ := h1
    go_enter Try.func50, Try.ntmps50
    go_wp2
    go_ret2
    exact ⟨by unfold hexV; rw [HE.out.1, if_pos rfl, HE.out.2]; rfl, rfl⟩
  · have hd : digitI (c.toNat : Int) = false := by rw [← Bool.not_eq_true]; simp [digitI]; omega
    by_cases h2 : 97 ≤ (c.toNat : Int) ∧ (c.toNat : Int) ≤ 102
    · have HE : Box (hexB c = true ∧ hexI c.toNat = (c.toNat : Int) - 97 + 10) := box (by
        have hv : hexI (c.toNat : Int) = (c.toNat : Int) - 97 + 10 := by unfold hexI; rw [if_neg (by rw [hd]; simp), if_pos h2]; omega
        exact ⟨by unfold hexB; rw [hv]; simp; omega, hv⟩)
      obtain ⟨h3, h4⟩ := h2
      clear hd
      have h5 : ¬ (c.toNat : Int) ≤ 57 := by omega
      clear h1
      go_enter Try.func50, Try.ntmps50
      go_wp2
      go_ret2
      exact ⟨by unfold hexV; rw [HE.out.1, if_pos rfl, HE.out.2]; rfl, rfl⟩
    · by_cases h3 : 65 ≤ (c.toNat : Int) ∧ (c.toNat : Int) ≤ 70
      · have HE : Box (hexB c = true ∧ hexI c.toNat = (c.toNat : Int) - 65 + 10) := box (by
          have hv : hexI (c.toNat : Int) = (c.toNat : Int) - 65 + 10 := by unfold hexI; rw [if_neg (by rw [hd]; simp), if_neg h2, if_pos h3]; omega
          exact ⟨by unfold hexB; rw [hv]; simp; omega, hv⟩)
        obtain ⟨h4, h5⟩ := h3
        clear hd
        have h6 : ¬ (c.toNat : Int) ≤ 57 := by omega
        have h7 : ¬ 97 ≤ (c.toNat : Int) := by omega
        clear h1 h2
        go_enter Try.func50, Try.ntmps50
        go_wp2
        go_ret2
        exact ⟨by unfold hexV; rw [HE.out.1, if_pos rfl, HE.out.2]; rfl, rfl⟩
      · have HE : Box (hexB c = false) := box (by
          have hv : hexI (c.toNat : Int) = -1 := by unfold hexI; rw [if_neg (by rw [hd]; simp), if_neg h2, if_neg h3]
          unfold hexB; rw [hv]; decide)
        clear hd
        go_enter Try.func50, Try.ntmps50
        go_wp2
        all_goals first
          | (exfalso; omega)
          | (go_ret2; exact ⟨by unfold hexV; rw [HE.out, if_neg (by simp)]; rfl, rfl⟩)

end Go.Proofs.Ytilodlmjamaiiaa.Asc
