/- The contracts of the reference's tagText, FormatETag, Strong, Weak, ParseETag. -/
import Derived.Test.YtchbhpfloinbdaaEtaMem
import Derived.Test.YtchbhpfloinbdaaAscTok
set_option linter.unusedVariables false
set_option linter.unusedSimpArgs false
set_option maxRecDepth 100000
namespace Go.Proofs.Ytchbhpfloinbdaa.Asc
open Go.RowKit

theorem tagI_no {b : Int} (h : tagI b = false) : b < 33 ∨ (¬ b < 33 ∧ b = 34) ∨ (¬ b < 33 ∧ b ≠ 34 ∧ b = 127) := by
  have h2 : ¬ (32 < b ∧ b ≠ 34 ∧ b ≠ 127) := by simpa [tagI] using h
  omega
theorem tagI_yes {b : Int} (h : tagI b = true) : ¬ b < 33 ∧ b ≠ 34 ∧ b ≠ 127 := by
  have h2 : 32 < b ∧ b ≠ 34 ∧ b ≠ 127 := by simpa [tagI] using h
  omega
theorem tagT_not {s : ByteArray} {k : Nat} (hk : k < s.size) (hp : tagI (s[k].toNat) = false) : tagT s.data.toList = false := all_not hk hp
theorem tagT_end {s : ByteArray} {k : Nat} (h : allI tagI (s.data.toList.take k) = true) (hk : s.size ≤ k) : tagT s.data.toList = true := all_end h hk
theorem rTagX_any (s : ByteArray) (w : World) (hs : s.size ≤ maxLen) :
    Calls Try.prog 29 #[.string s] w fun e w' => e = .returned (.bool (tagT s.data.toList)) ∧ w = w' := by
  unfold maxLen at hs
  go_enter Try.func29, Try.ntmps29
  go_wp2
  go_loop [3] (fun i => ∃ k : Nat, k ≤ s.size ∧ i = .int .i64 k ∧ allI tagI (s.data.toList.take k) = true) (fun i => s.size - (intOf i).toNat)
  case atStart => exact ⟨0, Nat.zero_le _, rfl, rfl⟩
  case round =>
    obtain ⟨k, hk, rfl, hall⟩ := hrel
    by_cases hlt : k < s.size
    · have hb := byte_bd s k hlt
      rcases hp : tagI (s[k].toNat) with _ | _
      · have HP := Lib.hid hp
        have hq := tagI_no hp
        have HA := Lib.hid hall
        clear hp hall
        rcases hq with hq | ⟨h1, hq⟩ | ⟨h1, h2, hq⟩
        · go_wp2
          go_ret
          exact ⟨ret_bool (tagT_not hlt HP.out).symm, rfl⟩
        · have e1 : ((s[k].toNat : Int) == 34) = true := by rw [beq_iff_eq]; exact hq
          clear hq
          go_wp2
          go_ret
          exact ⟨ret_bool (tagT_not hlt HP.out).symm, rfl⟩
        · have e1 : ((s[k].toNat : Int) == 34) = false := by rw [beq_eq_false_iff_ne]; exact h2
          have e2 : ((s[k].toNat : Int) == 127) = true := by rw [beq_iff_eq]; exact hq
          clear hq h2
          go_wp2
          go_ret
          exact ⟨ret_bool (tagT_not hlt HP.out).symm, rfl⟩
      · obtain ⟨h1, h2, h3⟩ := tagI_yes hp
        have HA := Lib.hid (all_more hall hlt hp)
        have e1 : ((s[k].toNat : Int) == 34) = false := by rw [beq_eq_false_iff_ne]; exact h2
        have e2 : ((s[k].toNat : Int) == 127) = false := by rw [beq_eq_false_iff_ne]; exact h3
        clear hp hall h2 h3
        go_wp2
        go_round
        case rel => exact ⟨k + 1, by omega, by go_num, HA.out⟩
        case measure => simp [intOf]; omega
    · go_wp2
      go_ret
      exact ⟨ret_bool (tagT_end hall (by omega)).symm, rfl⟩
theorem rTagX_is {s : ByteArray} {b : Bool} {w : World} (hs : s.size ≤ 65536) (h : Box (tagT s.data.toList = b)) :
    Calls Try.prog 29 #[.string s] w fun e w' => e = .returned (.bool b) ∧ w = w' :=
  (rTagX_any s w (by unfold maxLen; omega)).mono fun e w' ⟨h1, h2⟩ => ⟨by rw [h1, h.out], h2⟩
/-- two strings joined, told by letters -/
theorem add_is {a b z : ByteArray} (h : Box (a.data.toList ++ b.data.toList = z.data.toList)) (hz : z.size ≤ 70000) (w : World) : (Op.stringOp .add a b).run Try.prog w = .ok (.string z) w := by
  have e : a ++ b = z := by
    rw [bs_of z, ← h.out, bs_of a, bs_of b]; simp [bs, ByteArray.append_eq, ByteArray.ext_iff, ByteArray.data_append]
  have hl := congrArg ByteArray.size e
  rw [ByteArray.size_append] at hl
  rw [run_string_add_sum w _ _ (by omega), e]
theorem rFmtE_any (b : Bool) (t : ByteArray) (w : World) (ht : t.size ≤ 65000) :
    Calls Try.prog 11 #[.agg #[.bool b, .string t]] w fun e w' => e = .returned (.string (bs (fmtL (b, t)))) ∧ Below w.heap.size w w' := by
  have ht6 : t.size ≤ 65536 := by omega
  cases hg : tagT t.data.toList with
  | false =>
    have HG := box hg
    have HV : Box (bs (fmtL (b, t)) = ⟨#[]⟩) := box (by rw [fmt_empty hg]; rfl)
    clear hg
    go_enter Try.func11, Try.ntmps11
    go_wp2_with fail
    refine (rTagX_is ht6 HG).mono ?_; rintro e w1 ⟨rfl, rfl⟩
    go_wp2
    go_ret
    exact ⟨by rw [HV.out]; rfl, below_new _ _⟩
  | true =>
    have HG := box hg
    obtain ⟨z1, hz1⟩ : ∃ z : ByteArray, bs (wkE b ++ 34 :: t.data.toList) = z := ⟨_, rfl⟩
    obtain ⟨z2, hz2⟩ : ∃ z : ByteArray, bs (fmtL (b, t)) = z := ⟨_, rfl⟩
    have hl := fmt_len21 (b, t)
    have hlt : t.data.toList.length = t.size := by simp
    have hzs2 : z2.size ≤ 70000 := by rw [← hz2, bs_size]; have : (b, t).2.size = t.size := rfl
                                      omega
    have hzs1 : z1.size ≤ 70000 := by
      rw [← hz1, bs_size, List.length_append, List.length_cons, hlt]
      have : (wkE b).length ≤ 2 := by unfold wkE; split <;> simp
      omega
    have k2 : Box (z1.data.toList ++ [34] = z2.data.toList) := box (by
      rw [← hz1, ← hz2, bs_toList, bs_toList, fmt_some hg]; simp)
    rw [hz2]
    cases b with
    | false =>
      have r1 := add_is (a := ⟨#[34]⟩) (b := t) (z := z1) (box (by rw [← hz1]; rfl)) hzs1
      have r2 := add_is (a := z1) (b := ⟨#[34]⟩) (z := z2) (box k2.out) hzs2
      clear hg hz1 hz2 hl hlt hzs1 hzs2
      go_enter Try.func11, Try.ntmps11
      go_wp2_with fail
      refine (rTagX_is ht6 HG).mono ?_; rintro e w1 ⟨rfl, rfl⟩
      go_wp2
      go_ret
      exact ⟨rfl, below_new _ _⟩
    | true =>
      have r1 := add_is (a := ⟨#[87, 47, 34]⟩) (b := t) (z := z1) (box (by rw [← hz1]; rfl)) hzs1
      have r2 := add_is (a := z1) (b := ⟨#[34]⟩) (z := z2) (box k2.out) hzs2
      clear hg hz1 hz2 hl hlt hzs1 hzs2
      go_enter Try.func11, Try.ntmps11
      go_wp2_with fail
      refine (rTagX_is ht6 HG).mono ?_; rintro e w1 ⟨rfl, rfl⟩
      go_wp2
      go_ret
      exact ⟨rfl, below_new _ _⟩
theorem rFmtE_is {b : Bool} {t z : ByteArray} {w : World} (ht : t.size ≤ 65000) (h : Box (bs (fmtL (b, t)) = z)) :
    Calls Try.prog 11 #[.agg #[.bool b, .string t]] w fun e w' => e = .returned (.string z) ∧ Below w.heap.size w w' :=
  (rFmtE_any b t w ht).mono fun e w' ⟨h1, h2⟩ => ⟨by rw [h1, h.out], h2⟩
def weakE (x y : ET) : Bool := decide (x.2 = y.2)
def strongE (x y : ET) : Bool := weakE x y && !x.1 && !y.1
theorem weak_beq (b c : Bool) (t u : ByteArray) : weakE (b, t) (c, u) = (t.toList == u.toList) := by
  unfold weakE
  rw [Bool.eq_iff_iff, decide_eq_true_iff, beq_iff_eq, toList_data, toList_data]
  constructor
  · rintro h; rw [show t = u from h]
  · intro h; show t = u; rw [bs_of t, bs_of u, h]
theorem rWeakE_any (b c : Bool) (t u : ByteArray) (w : World) :
    Calls Try.prog 22 #[.agg #[.bool b, .string t], .agg #[.bool c, .string u]] w fun e w' => e = .returned (.bool (weakE (b, t) (c, u))) ∧ Below w.heap.size w w' := by
  obtain ⟨q, hq⟩ : ∃ q, (t.toList == u.toList) = q := ⟨_, rfl⟩
  rw [weak_beq, hq]
  go_enter Try.func22, Try.ntmps22
  go_wp2
  go_ret
  exact ⟨rfl, (below_new _ _).alloc (below_new _ _).size _⟩
theorem rStrongE_any (b c : Bool) (t u : ByteArray) (w : World) :
    Calls Try.prog 20 #[.agg #[.bool b, .string t], .agg #[.bool c, .string u]] w fun e w' => e = .returned (.bool (strongE (b, t) (c, u))) ∧ Below w.heap.size w w' := by
  obtain ⟨q, hq⟩ : ∃ q, (t.toList == u.toList) = q := ⟨_, rfl⟩
  unfold strongE
  rw [weak_beq, hq]
  cases q <;> cases b <;> cases c
  all_goals
    go_enter Try.func20, Try.ntmps20
    go_wp2
    go_ret
    exact ⟨rfl, (below_new _ _).alloc (below_new _ _).size _⟩

end Go.Proofs.Ytchbhpfloinbdaa.Asc
