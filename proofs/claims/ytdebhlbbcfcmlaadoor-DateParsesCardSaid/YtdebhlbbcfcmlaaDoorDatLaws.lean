/- The walks of the laws of stage 20: DateParses, DateFormats, DateDays, DateBack. -/
import Derived.Test.YtdebhlbbcfcmlaaDoorDatMine5
import Derived.Test.YtdebhlbbcfcmlaaDoorDatRef5
set_option linter.unusedVariables false
set_option linter.unusedSimpArgs false
set_option maxRecDepth 100000
namespace Go.Proofs.YtdebhlbbcfcmlaaDoor.Asc
open Go.RowKit

theorem in20 {n : Int} (h : (Lit.int .i64 n).wf = true) : InI64 n := by
  unfold InI64
  simp [Lit.wf, IntKind.min, IntKind.max, IntKind.bits, IntKind.signed] at h
  omega
theorem rFmt20_any (t : Int) (x : List UInt8) (w : World) (hx : FmtIs t x) :
    Calls Tryd.prog 13 #[.int .i64 t] w fun e w' => e = .returned (.string (bs x)) ∧ Below w.heap.size w w' := by
  rcases hx with ⟨n, s, y, m, d, rfl, hs, hc, rfl⟩ | ⟨h, rfl⟩
  · exact rFmt20_in _ n s y m d w rfl hs hc
  · rcases h with h | h
    · go_enter Tryd.func13, Tryd.ntmps13
      go_wp2
      go_ret
      exact ⟨rfl, Below.refl _ _⟩
    · have h0 : ¬ t < 0 := by omega
      go_enter Tryd.func13, Tryd.ntmps13
      go_wp2
      go_ret
      exact ⟨rfl, Below.refl _ _⟩
theorem mParse20_is {s : ByteArray} {a : Int} {b : Bool} {w : World} (hs : s.size ≤ 9223372036854775807) (hW : Tabs w) (h : Box (numT (prsD s.data.toList) = .tuple #[.int .i64 a, .bool b])) :
    Calls Tryd.prog 9 #[.string s] w fun e w' => e = .returned (.tuple #[.int .i64 a, .bool b]) ∧ Below w.heap.size w w' :=
  (mParse20_any s w hs hW).mono fun e w' ⟨h1, h2⟩ => ⟨by rw [h1, h.out], h2⟩
theorem rParse20_is {s : ByteArray} {a : Int} {b : Bool} {w : World} (h : Box (numT (prsD s.data.toList) = .tuple #[.int .i64 a, .bool b])) :
    Calls Tryd.prog 10 #[.string s] w fun e w' => e = .returned (.tuple #[.int .i64 a, .bool b]) ∧ Below w.heap.size w w' :=
  (rParse20_any s w).mono fun e w' ⟨h1, h2⟩ => ⟨by rw [h1, h.out], h2⟩
/-- the example of the chapter -/
theorem aw20 : numT (prsD (⟨#[83, 117, 110, 44, 32, 48, 54, 32, 78, 111, 118, 32, 49, 57, 57, 52, 32, 48, 56, 58, 52, 57, 58, 51, 55, 32, 71, 77, 84]⟩ : ByteArray).data.toList) = .tuple #[.int .i64 784111777, .bool true] := by
  have h : TextOf 784111777 [83, 117, 110, 44, 32, 48, 54, 32, 78, 111, 118, 32, 49, 57, 57, 52, 32, 48, 56, 58, 52, 57, 58, 51, 55, 32, 71, 77, 84] :=
    ⟨9075, 31777, 1994, 11, 6, by decide, by decide, ⟨by decide, by decide⟩, by decide⟩
  show numT (prsD [83, 117, 110, 44, 32, 48, 54, 32, 78, 111, 118, 32, 49, 57, 57, 52, 32, 48, 56, 58, 52, 57, 58, 51, 55, 32, 71, 77, 84]) = _
  rw [prs_text h]; rfl
theorem awake20_any (w : World) (hW : Tabs w) : Calls Tryd.prog 11 #[] w fun e w' => e = .returned (.bool true) ∧ Below w.heap.size w w' := by
  have HT := box hW
  have HD : Box (daysV 1970 1 2 = 1) := box (by decide)
  clear hW
  go_enter Tryd.func11, Tryd.ntmps11
  go_wp2_with fail
  refine (mParse20_is (by decide) HT.out (box aw20)).mono ?_; rintro e w1 ⟨rfl, hb1⟩
  have B1 := box hb1
  clear hb1
  go_wp2_with fail
  refine (mDays_is (HT.out.below B1.out) HD).mono ?_; rintro e w2 ⟨rfl, rfl⟩
  go_wp2
  go_ret
  exact ⟨rfl, B1.out⟩
theorem parses20_walk (s : ByteArray) (w : World) (S : s.size ≤ maxLen) (hW : Tabs w) :
    Calls Tryd.prog 3 #[.string s] w fun e w' => e = .returned (.bool true) ∧ Below w.heap.size w w' := by
  have HT := box hW
  clear hW
  unfold maxLen at S
  obtain ⟨a, b, hq⟩ : ∃ a b, numT (prsD s.data.toList) = .tuple #[.int .i64 a, .bool b] := ⟨_, _, rfl⟩
  have HQ := box hq
  clear hq
  by_cases h : 1000 < s.size
  · have hi : (1000 : Int) < (s.size : Int) := by omega
    go_enter Tryd.func3, Tryd.ntmps3
    go_wp2
    go_ret
    exact ⟨rfl, Below.refl _ _⟩
  · have hi : ¬ (1000 : Int) < (s.size : Int) := by omega
    go_enter Tryd.func3, Tryd.ntmps3
    go_wp2_with fail
    refine (mParse20_is S HT.out HQ).mono ?_; rintro e w1 ⟨rfl, hb1⟩
    have B1 := box hb1
    clear hb1
    go_wp2_with fail
    refine (rParse20_is HQ).mono ?_; rintro e w2 ⟨rfl, hb2⟩
    have B2 := box (B1.out.trans (hb2.mono B1.out.size))
    clear hb2
    go_wp2_with fail
    refine (awake20_any _ (HT.out.below B2.out)).mono ?_; rintro e w3 ⟨rfl, hb3⟩
    have B3 := box (B2.out.trans (hb3.mono B2.out.size))
    clear hb3
    go_wp2
    go_ret
    exact ⟨rfl, B3.out⟩
theorem formats20_walk (t : Int) (w : World) (hw : (Lit.int .i64 t).wf = true) (hW : Tabs w) :
    Calls Tryd.prog 4 #[.int .i64 t] w fun e w' => e = .returned (.bool true) ∧ Below w.heap.size w w' := by
  have HT := box hW
  obtain ⟨x, hx⟩ := fmt_exists t
  have HX := box hx
  clear hW hx hw
  have he : ((bs x).toList == (bs x).toList) = true := by simp
  go_enter Tryd.func4, Tryd.ntmps4
  go_wp2_with fail
  refine (mFmt_any _ _ _ HX.out HT.out).mono ?_; rintro e w1 ⟨rfl, hb1⟩
  have B1 := box hb1
  clear hb1
  go_wp2_with fail
  refine (rFmt20_any _ _ _ HX.out).mono ?_; rintro e w2 ⟨rfl, hb2⟩
  have B2 := box (B1.out.trans (hb2.mono B1.out.size))
  clear hb2
  go_wp2_with fail
  refine (awake20_any _ (HT.out.below B2.out)).mono ?_; rintro e w3 ⟨rfl, hb3⟩
  have B3 := box (B2.out.trans (hb3.mono B2.out.size))
  clear hb3
  go_wp2
  go_ret
  exact ⟨rfl, B3.out⟩
theorem days20_walk (y m d : Int) (w : World) (h1 : (Lit.int .i64 y).wf = true) (h2 : (Lit.int .i64 m).wf = true) (h3 : (Lit.int .i64 d).wf = true) (hW : Tabs w) :
    Calls Tryd.prog 5 #[.int .i64 y, .int .i64 m, .int .i64 d] w fun e w' => e = .returned (.bool true) ∧ Below w.heap.size w w' := by
  have HT := box hW
  obtain ⟨v, hv⟩ : ∃ v, daysV y m d = v := ⟨_, rfl⟩
  have HV := box hv
  clear hW hv h1 h2 h3
  go_enter Tryd.func5, Tryd.ntmps5
  go_wp2_with fail
  refine (mDays_is HT.out HV).mono ?_; rintro e w1 ⟨rfl, rfl⟩
  go_wp2_with fail
  refine (rDays20_is HV).mono ?_; rintro e w2 ⟨rfl, rfl⟩
  go_wp2_with fail
  refine (awake20_any _ HT.out).mono ?_; rintro e w3 ⟨rfl, hb3⟩
  have B3 := box hb3
  clear hb3
  go_wp2
  go_ret
  exact ⟨rfl, B3.out⟩
theorem back20_walk (t : Int) (w : World) (hw : (Lit.int .i64 t).wf = true) (hW : Tabs w) :
    Calls Tryd.prog 6 #[.int .i64 t] w fun e w' => e = .returned (.bool true) ∧ Below w.heap.size w w' := by
  have HT := box hW
  obtain ⟨x, hx⟩ := fmt_exists t
  have HX := box hx
  have HS : Box ((bs x).size ≤ 9223372036854775807) := box (by rw [bs_size]; have := fmt_len20 hx; omega)
  rcases hx with h | ⟨h, rfl⟩
  · have hr := text_range20 h
    have HQ : Box (numT (prsD (bs x).data.toList) = .tuple #[.int .i64 t, .bool true]) := box (by rw [bs_toList, prs_text h]; rfl)
    have i1 : ¬ t < 0 := by omega
    have i2 : ¬ (253402300799 : Int) < t := by omega
    clear hW h hw
    go_enter Tryd.func6, Tryd.ntmps6
    go_wp2_with fail
    refine (mFmt_any _ _ _ HX.out HT.out).mono ?_; rintro e w1 ⟨rfl, hb1⟩
    have B1 := box hb1
    clear hb1
    go_wp2_with fail
    refine (mParse20_is HS.out (HT.out.below B1.out) HQ).mono ?_; rintro e w2 ⟨rfl, hb2⟩
    have B2 := box (B1.out.trans (hb2.mono B1.out.size))
    clear hb2
    go_wp2_with fail
    refine (awake20_any _ (HT.out.below B2.out)).mono ?_; rintro e w3 ⟨rfl, hb3⟩
    have B3 := box (B2.out.trans (hb3.mono B2.out.size))
    clear hb3
    go_wp2
    go_ret
    exact ⟨rfl, B3.out⟩
  · have HQ : Box (numT (prsD (bs []).data.toList) = .tuple #[.int .i64 0, .bool false]) := box (by rw [bs_toList, prs_nil]; rfl)
    have hd : t < 0 ∨ (¬ t < 0 ∧ (253402300799 : Int) < t) := by omega
    clear hW h hw
    rcases hd with i1 | ⟨i1, i2⟩
    all_goals
      go_enter Tryd.func6, Tryd.ntmps6
      go_wp2_with fail
      refine (mFmt_any _ _ _ HX.out HT.out).mono ?_; rintro e w1 ⟨rfl, hb1⟩
      have B1 := box hb1
      clear hb1
      go_wp2_with fail
      refine (mParse20_is HS.out (HT.out.below B1.out) HQ).mono ?_; rintro e w2 ⟨rfl, hb2⟩
      have B2 := box (B1.out.trans (hb2.mono B1.out.size))
      clear hb2
      go_wp2_with fail
      refine (awake20_any _ (HT.out.below B2.out)).mono ?_; rintro e w3 ⟨rfl, hb3⟩
      have B3 := box (B2.out.trans (hb3.mono B2.out.size))
      clear hb3
      go_wp2
      go_ret
      exact ⟨rfl, B3.out⟩

end Go.Proofs.YtdebhlbbcfcmlaaDoor.Asc
