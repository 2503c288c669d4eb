/- The walk of the law EtagBack. -/
import Derived.Test.YtchbhpfloinbdaaEtaLaws
set_option linter.unusedVariables false
set_option linter.unusedSimpArgs false
set_option maxRecDepth 100000
namespace Go.Proofs.Ytchbhpfloinbdaa.Asc
open Go.RowKit

theorem back21_long (s : ByteArray) (b : Bool) (t : ByteArray) (w : World) (hs : s.size ≤ 9223372036854775807) (ht : t.size ≤ 9223372036854775807) (h : 1000 < s.size ∨ (¬ 1000 < s.size ∧ 1000 < t.size)) :
    Calls Try.prog 6 #[.string s, .agg #[.bool b, .string t]] w fun e w' => e = .returned (.bool true) ∧ Below w.heap.size w w' := by
  rcases h with h | ⟨h1, h⟩
  · have i1 : (1000 : Int) < (s.size : Int) := by omega
    go_enter Try.func6, Try.ntmps6
    go_wp2
    go_ret
    exact ⟨rfl, below_new _ _⟩
  · have i1 : ¬ (1000 : Int) < (s.size : Int) := by omega
    have i2 : (1000 : Int) < (t.size : Int) := by omega
    go_enter Try.func6, Try.ntmps6
    go_wp2
    go_ret
    exact ⟨rfl, below_new _ _⟩
set_option maxHeartbeats 4000000 in
theorem back21_no_no (s : ByteArray) (b : Bool) (t : ByteArray) (w : World) (hs : s.size ≤ 1000) (ht : t.size ≤ 1000) (HQ : Box (tgV (parE s.data.toList) = .tuple #[.agg #[.bool false, .string ⟨#[]⟩], .bool false])) (HF : Box (bs (fmtL (b, t)) = ⟨#[]⟩)) :
    Calls Try.prog 6 #[.string s, .agg #[.bool b, .string t]] w fun e w' => e = .returned (.bool true) ∧ Below w.heap.size w w' := by
  have i1 : ¬ (1000 : Int) < (s.size : Int) := by omega
  have i2 : ¬ (1000 : Int) < (t.size : Int) := by omega
  have hs6 : s.size ≤ 65000 := by omega
  have ht6 : t.size ≤ 65000 := by omega
  have ss : (s.toList == s.toList) = true := by simp
  have st : (t.toList == t.toList) = true := by simp
  have sb : (b == b) = true := by simp
  have E0 := box (T2.new (.bool b) (.string t) w 23)
  have B0 := box (below_new w (.cells #[.bool b, .string t] 23))
  go_enter Try.func6, Try.ntmps6
  go_wp2_with fail
  refine (mParE_is hs6 HQ).mono ?_; rintro e w1 ⟨rfl, hb1⟩
  have hn1 := below_new w1 (.cells #[.bool false, .string ⟨#[]⟩] 23)
  have E1 := box ((E0.out.next hb1).next hn1)
  have X1 := box (T2.new (.bool false) (.string ⟨#[]⟩) w1 23)
  have B1 := box ((B0.out.trans (hb1.mono B0.out.size)).trans (hn1.mono (B0.out.trans (hb1.mono B0.out.size)).size))
  clear hb1 hn1
  obtain ⟨⟨e0, e1⟩, _⟩ := E1.out
  have E2 := E1
  have B2 := B1
  go_wp2_with fail
  refine (mFmtE_is ht6 HF).mono ?_; rintro e w3 ⟨rfl, hb3⟩
  have E3 := box (E2.out.next hb3)
  have B3 := box (B2.out.trans (hb3.mono B2.out.size))
  clear hb3 e0 e1
  obtain ⟨⟨e0, e1⟩, _⟩ := E3.out
  go_wp2_with fail
  refine (rFmtE_is ht6 HF).mono ?_; rintro e w4 ⟨rfl, hb4⟩
  have B4 := box (B3.out.trans (hb4.mono B3.out.size))
  clear hb4 e0 e1
  go_wp2_with fail
  refine (awake21_any _).mono ?_; rintro e w5 ⟨rfl, hb5⟩
  have B5 := box (B4.out.trans (hb5.mono B4.out.size))
  clear hb5
  go_wp2
  go_ret
  exact ⟨rfl, B5.out⟩
set_option maxHeartbeats 4000000 in
theorem back21_no_yes (s : ByteArray) (b : Bool) (t : ByteArray) (w : World) (hs : s.size ≤ 1000) (ht : t.size ≤ 1000) (HQ : Box (tgV (parE s.data.toList) = .tuple #[.agg #[.bool false, .string ⟨#[]⟩], .bool false])) (f : ByteArray) (hfz : f.size ≤ 65000) (HF : Box (bs (fmtL (b, t)) = f)) (hfe : (f.toList == []) = false) (HR : Box (tgV (parE f.data.toList) = .tuple #[.agg #[.bool b, .string t], .bool true])) :
    Calls Try.prog 6 #[.string s, .agg #[.bool b, .string t]] w fun e w' => e = .returned (.bool true) ∧ Below w.heap.size w w' := by
  have i1 : ¬ (1000 : Int) < (s.size : Int) := by omega
  have i2 : ¬ (1000 : Int) < (t.size : Int) := by omega
  have hs6 : s.size ≤ 65000 := by omega
  have ht6 : t.size ≤ 65000 := by omega
  have ss : (s.toList == s.toList) = true := by simp
  have st : (t.toList == t.toList) = true := by simp
  have sb : (b == b) = true := by simp
  have E0 := box (T2.new (.bool b) (.string t) w 23)
  have B0 := box (below_new w (.cells #[.bool b, .string t] 23))
  go_enter Try.func6, Try.ntmps6
  go_wp2_with fail
  refine (mParE_is hs6 HQ).mono ?_; rintro e w1 ⟨rfl, hb1⟩
  have hn1 := below_new w1 (.cells #[.bool false, .string ⟨#[]⟩] 23)
  have E1 := box ((E0.out.next hb1).next hn1)
  have X1 := box (T2.new (.bool false) (.string ⟨#[]⟩) w1 23)
  have B1 := box ((B0.out.trans (hb1.mono B0.out.size)).trans (hn1.mono (B0.out.trans (hb1.mono B0.out.size)).size))
  clear hb1 hn1
  obtain ⟨⟨e0, e1⟩, _⟩ := E1.out
  have E2 := E1
  have B2 := B1
  go_wp2_with fail
  refine (mFmtE_is ht6 HF).mono ?_; rintro e w3 ⟨rfl, hb3⟩
  have E3 := box (E2.out.next hb3)
  have B3 := box (B2.out.trans (hb3.mono B2.out.size))
  clear hb3 e0 e1
  obtain ⟨⟨e0, e1⟩, _⟩ := E3.out
  go_wp2_with fail
  refine (mParE_is hfz HR).mono ?_; rintro e w4 ⟨rfl, hb4⟩
  have hn4 := below_new w4 (.cells #[.bool b, .string t] 23)
  have E4 := box ((E3.out.next hb4).next hn4)
  have X4 := box (T2.new (.bool b) (.string t) w4 23)
  have B4 := box ((B3.out.trans (hb4.mono B3.out.size)).trans (hn4.mono (B3.out.trans (hb4.mono B3.out.size)).size))
  clear hb4 hn4 e0 e1
  obtain ⟨⟨e0, e1⟩, _⟩ := E4.out
  obtain ⟨⟨x0, x1⟩, _⟩ := X4.out
  go_wp2_with fail
  refine (awake21_any _).mono ?_; rintro e w5 ⟨rfl, hb5⟩
  have B5 := box (B4.out.trans (hb5.mono B4.out.size))
  clear hb5
  go_wp2
  go_ret
  exact ⟨rfl, B5.out⟩
set_option maxHeartbeats 4000000 in
theorem back21_yes_no (s : ByteArray) (b : Bool) (t : ByteArray) (w : World) (hs : s.size ≤ 1000) (ht : t.size ≤ 1000) (p : Bool) (z : ByteArray) (hz : z.size ≤ 65000) (HQ : Box (tgV (parE s.data.toList) = .tuple #[.agg #[.bool p, .string z], .bool true])) (HS : Box (bs (fmtL (p, z)) = s)) (HF : Box (bs (fmtL (b, t)) = ⟨#[]⟩)) :
    Calls Try.prog 6 #[.string s, .agg #[.bool b, .string t]] w fun e w' => e = .returned (.bool true) ∧ Below w.heap.size w w' := by
  have i1 : ¬ (1000 : Int) < (s.size : Int) := by omega
  have i2 : ¬ (1000 : Int) < (t.size : Int) := by omega
  have hs6 : s.size ≤ 65000 := by omega
  have ht6 : t.size ≤ 65000 := by omega
  have ss : (s.toList == s.toList) = true := by simp
  have st : (t.toList == t.toList) = true := by simp
  have sb : (b == b) = true := by simp
  have E0 := box (T2.new (.bool b) (.string t) w 23)
  have B0 := box (below_new w (.cells #[.bool b, .string t] 23))
  go_enter Try.func6, Try.ntmps6
  go_wp2_with fail
  refine (mParE_is hs6 HQ).mono ?_; rintro e w1 ⟨rfl, hb1⟩
  have hn1 := below_new w1 (.cells #[.bool p, .string z] 23)
  have E1 := box ((E0.out.next hb1).next hn1)
  have X1 := box (T2.new (.bool p) (.string z) w1 23)
  have B1 := box ((B0.out.trans (hb1.mono B0.out.size)).trans (hn1.mono (B0.out.trans (hb1.mono B0.out.size)).size))
  clear hb1 hn1
  obtain ⟨⟨e0, e1⟩, _⟩ := E1.out
  obtain ⟨⟨x0, x1⟩, _⟩ := X1.out
  go_wp2_with fail
  refine (mFmtE_is hz HS).mono ?_; rintro e w2 ⟨rfl, hb2⟩
  have E2 := box (E1.out.next hb2)
  have B2 := box (B1.out.trans (hb2.mono B1.out.size))
  clear hb2 e0 e1 x0 x1
  obtain ⟨⟨e0, e1⟩, _⟩ := E2.out
  go_wp2_with fail
  refine (mFmtE_is ht6 HF).mono ?_; rintro e w3 ⟨rfl, hb3⟩
  have E3 := box (E2.out.next hb3)
  have B3 := box (B2.out.trans (hb3.mono B2.out.size))
  clear hb3 e0 e1
  obtain ⟨⟨e0, e1⟩, _⟩ := E3.out
  go_wp2_with fail
  refine (rFmtE_is ht6 HF).mono ?_; rintro e w4 ⟨rfl, hb4⟩
  have B4 := box (B3.out.trans (hb4.mono B3.out.size))
  clear hb4 e0 e1
  go_wp2_with fail
  refine (awake21_any _).mono ?_; rintro e w5 ⟨rfl, hb5⟩
  have B5 := box (B4.out.trans (hb5.mono B4.out.size))
  clear hb5
  go_wp2
  go_ret
  exact ⟨rfl, B5.out⟩
set_option maxHeartbeats 4000000 in
theorem back21_yes_yes (s : ByteArray) (b : Bool) (t : ByteArray) (w : World) (hs : s.size ≤ 1000) (ht : t.size ≤ 1000) (p : Bool) (z : ByteArray) (hz : z.size ≤ 65000) (HQ : Box (tgV (parE s.data.toList) = .tuple #[.agg #[.bool p, .string z], .bool true])) (HS : Box (bs (fmtL (p, z)) = s)) (f : ByteArray) (hfz : f.size ≤ 65000) (HF : Box (bs (fmtL (b, t)) = f)) (hfe : (f.toList == []) = false) (HR : Box (tgV (parE f.data.toList) = .tuple #[.agg #[.bool b, .string t], .bool true])) :
    Calls Try.prog 6 #[.string s, .agg #[.bool b, .string t]] w fun e w' => e = .returned (.bool true) ∧ Below w.heap.size w w' := by
  have i1 : ¬ (1000 : Int) < (s.size : Int) := by omega
  have i2 : ¬ (1000 : Int) < (t.size : Int) := by omega
  have hs6 : s.size ≤ 65000 := by omega
  have ht6 : t.size ≤ 65000 := by omega
  have ss : (s.toList == s.toList) = true := by simp
  have st : (t.toList == t.toList) = true := by simp
  have sb : (b == b) = true := by simp
  have E0 := box (T2.new (.bool b) (.string t) w 23)
  have B0 := box (below_new w (.cells #[.bool b, .string t] 23))
  go_enter Try.func6, Try.ntmps6
  go_wp2_with fail
  refine (mParE_is hs6 HQ).mono ?_; rintro e w1 ⟨rfl, hb1⟩
  have hn1 := below_new w1 (.cells #[.bool p, .string z] 23)
  have E1 := box ((E0.out.next hb1).next hn1)
  have X1 := box (T2.new (.bool p) (.string z) w1 23)
  have B1 := box ((B0.out.trans (hb1.mono B0.out.size)).trans (hn1.mono (B0.out.trans (hb1.mono B0.out.size)).size))
  clear hb1 hn1
  obtain ⟨⟨e0, e1⟩, _⟩ := E1.out
  obtain ⟨⟨x0, x1⟩, _⟩ := X1.out
  go_wp2_with fail
  refine (mFmtE_is hz HS).mono ?_; rintro e w2 ⟨rfl, hb2⟩
  have E2 := box (E1.out.next hb2)
  have B2 := box (B1.out.trans (hb2.mono B1.out.size))
  clear hb2 e0 e1 x0 x1
  obtain ⟨⟨e0, e1⟩, _⟩ := E2.out
  go_wp2_with fail
  refine (mFmtE_is ht6 HF).mono ?_; rintro e w3 ⟨rfl, hb3⟩
  have E3 := box (E2.out.next hb3)
  have B3 := box (B2.out.trans (hb3.mono B2.out.size))
  clear hb3 e0 e1
  obtain ⟨⟨e0, e1⟩, _⟩ := E3.out
  go_wp2_with fail
  refine (mParE_is hfz HR).mono ?_; rintro e w4 ⟨rfl, hb4⟩
  have hn4 := below_new w4 (.cells #[.bool b, .string t] 23)
  have E4 := box ((E3.out.next hb4).next hn4)
  have X4 := box (T2.new (.bool b) (.string t) w4 23)
  have B4 := box ((B3.out.trans (hb4.mono B3.out.size)).trans (hn4.mono (B3.out.trans (hb4.mono B3.out.size)).size))
  clear hb4 hn4 e0 e1
  obtain ⟨⟨e0, e1⟩, _⟩ := E4.out
  obtain ⟨⟨x0, x1⟩, _⟩ := X4.out
  go_wp2_with fail
  refine (awake21_any _).mono ?_; rintro e w5 ⟨rfl, hb5⟩
  have B5 := box (B4.out.trans (hb5.mono B4.out.size))
  clear hb5
  go_wp2
  go_ret
  exact ⟨rfl, B5.out⟩
theorem tgV_none : tgV none = .tuple #[.agg #[.bool false, .string ⟨#[]⟩], .bool false] := rfl
theorem tgV_some (b : Bool) (t : ByteArray) : tgV (some (b, t)) = .tuple #[.agg #[.bool b, .string t], .bool true] := rfl
theorem back21_walk (s : ByteArray) (b : Bool) (t : ByteArray) (w : World) (S : s.size ≤ maxLen) (T : t.size ≤ maxLen) :
    Calls Try.prog 6 #[.string s, .agg #[.bool b, .string t]] w fun e w' => e = .returned (.bool true) ∧ Below w.heap.size w w' := by
  by_cases h1 : 1000 < s.size
  · exact back21_long s b t w S T (.inl h1)
  · by_cases h2 : 1000 < t.size
    · exact back21_long s b t w S T (.inr ⟨h1, h2⟩)
    · have hs : s.size ≤ 1000 := by omega
      have ht : t.size ≤ 1000 := by omega
      have key : ∀ p z, parE s.data.toList = some (p, z) → z.size ≤ 65000 ∧ bs (fmtL (p, z)) = s := fun p z h => by
        obtain ⟨k1, k2⟩ := par_tag h
        have k3 : bs (fmtL (p, z)) = s := by rw [k2]; exact (bs_of s).symm
        refine ⟨?_, k3⟩
        have hl : s.data.toList.length = s.size := by simp
        rw [← k2, fmt_some k1] at hl
        have hz : z.data.toList.length = z.size := by simp
        simp only [List.length_append, List.length_cons, List.length_nil] at hl
        omega
      have hfl := fmt_len21 (b, t)
      have hft : (b, t).2.size = t.size := rfl
      cases hg : tagT t.data.toList with
      | false =>
        have HF : Box (bs (fmtL (b, t)) = ⟨#[]⟩) := box (by rw [fmt_empty hg]; rfl)
        cases hp : parE s.data.toList with
        | none => exact back21_no_no s b t w hs ht (box (by rw [hp]; rfl)) HF
        | some e =>
          obtain ⟨p, z⟩ := e
          obtain ⟨k1, k2⟩ := key p z hp
          exact back21_yes_no s b t w hs ht p z k1 (box (by rw [hp]; rfl)) (box k2) HF
      | true =>
        have hfe : ((bs (fmtL (b, t))).toList == []) = false := by
          rw [beq_eq_false_iff_ne, toList_bs]; exact fmt_ne hg
        have HR : Box (tgV (parE (bs (fmtL (b, t))).data.toList) = .tuple #[.agg #[.bool b, .string t], .bool true]) := box (by rw [bs_toList, par_fmt hg]; rfl)
        have hfz : (bs (fmtL (b, t))).size ≤ 65000 := by rw [bs_size]; omega
        cases hp : parE s.data.toList with
        | none => exact back21_no_yes s b t w hs ht (box (by rw [hp]; rfl)) _ hfz (box rfl) hfe HR
        | some e =>
          obtain ⟨p, z⟩ := e
          obtain ⟨k1, k2⟩ := key p z hp
          exact back21_yes_yes s b t w hs ht p z k1 (box (by rw [hp]; rfl)) (box k2) _ hfz (box rfl) hfe HR

end Go.Proofs.Ytchbhpfloinbdaa.Asc
