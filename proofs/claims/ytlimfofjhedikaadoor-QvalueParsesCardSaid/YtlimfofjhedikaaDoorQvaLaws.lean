/- The walks of the laws of stage 8. -/
import Derived.Test.YtlimfofjhedikaaDoorQvaMine2
set_option linter.unusedVariables false
set_option linter.unusedSimpArgs false
set_option maxRecDepth 100000
namespace Go.Proofs.YtlimfofjhedikaaDoor.Asc
open Go.RowKit

theorem mParse8_is {s : ByteArray} {a : Int} {b : Bool} {w : World} (hs : s.size ≤ 9223372036854775807) (hW : Wts w) (h : Box (qvT (qvL s.data.toList) = .tuple #[.int .i64 a, .bool b])) :
    Calls Tryd.prog 6 #[.string s] w fun e w' => e = .returned (.tuple #[.int .i64 a, .bool b]) ∧ Below w.heap.size w w' :=
  (mParse8_any s w hs hW).mono fun e w' ⟨h1, h2⟩ => ⟨by rw [h1, h.out], h2⟩
theorem rParse8_is {s : ByteArray} {a : Int} {b : Bool} {w : World} (hs : s.size ≤ 9223372036854775807) (h : Box (qvT (qvL s.data.toList) = .tuple #[.int .i64 a, .bool b])) :
    Calls Tryd.prog 7 #[.string s] w fun e w' => e = .returned (.tuple #[.int .i64 a, .bool b]) ∧ w = w' :=
  (rParseQ_any s w hs).mono fun e w' ⟨h1, h2⟩ => ⟨by rw [h1, h.out], h2⟩
theorem mFormat8_is {q : Int} {x : ByteArray} {w : World} (hq : InI64 q) (hW : Wts w) (h : Box (bs (fmtQ q) = x)) :
    Calls Tryd.prog 9 #[.int .i64 q] w fun e w' => e = .returned (.string x) ∧ Below w.heap.size w w' :=
  (mFormat8_any q w hq hW).mono fun e w' ⟨h1, h2⟩ => ⟨by rw [h1, h.out], h2⟩
theorem rFormat8_is {q : Int} {x : ByteArray} {w : World} (hq : InI64 q) (h : Box (bs (fmtQ q) = x)) :
    Calls Tryd.prog 10 #[.int .i64 q] w fun e w' => e = .returned (.string x) ∧ Below w.heap.size w w' :=
  (rFormatQ_any q w hq).mono fun e w' ⟨h1, h2⟩ => ⟨by rw [h1, h.out], h2⟩
theorem aw8a : qvT (qvL (⟨#[48, 46, 48, 53]⟩ : ByteArray).data.toList) = .tuple #[.int .i64 50, .bool true] := by
  have : qvL [48, 46, 48, 53] = some 50 := by decide +kernel
  show qvT (qvL [48, 46, 48, 53]) = _
  rw [this]; rfl
theorem aw8b : bs (fmtQ 500) = ⟨#[48, 46, 53]⟩ := by
  have : fmtQ 500 = [48, 46, 53] := by decide +kernel
  rw [this]; rfl
theorem awake8_any (w : World) (hW : Wts w) : Calls Tryd.prog 8 #[] w fun e w' => e = .returned (.bool true) ∧ Below w.heap.size w w' := by
  have HT := box hW
  clear hW
  go_enter Tryd.func8, Tryd.ntmps8
  go_wp2_with fail
  refine (mParse8_is (by decide) HT.out (box aw8a)).mono ?_; rintro e w1 ⟨rfl, hb1⟩
  have B1 := box hb1
  clear hb1
  go_wp2_with fail
  refine (mFormat8_is ⟨by omega, by omega⟩ (HT.out.below B1.out) (box aw8b)).mono ?_; rintro e w2 ⟨rfl, hb2⟩
  have B2 := box (B1.out.trans (hb2.mono B1.out.size))
  clear hb2
  go_wp2
  go_ret
  exact ⟨rfl, B2.out⟩
theorem parses8_walk (s : ByteArray) (w : World) (S : s.size ≤ maxLen) (hW : Wts w) :
    Calls Tryd.prog 3 #[.string s] w fun e w' => e = .returned (.bool true) ∧ Below w.heap.size w w' := by
  have HT := box hW
  clear hW
  unfold maxLen at S
  obtain ⟨a, b, hq⟩ : ∃ a b, qvT (qvL s.data.toList) = .tuple #[.int .i64 a, .bool b] := ⟨_, _, rfl⟩
  have HQ := box hq
  clear hq
  by_cases h : 1000 < s.size
  · have hi : (1000 : Int) < (s.size : Int) := by omega
    go_enter Tryd.func3, Tryd.ntmps3
    go_wp2
    go_ret
    exact ⟨rfl, Below.refl _ _⟩
  · have hi : ¬ (1000 : Int) < (s.size : Int) := by omega
    go_enter Tryd.func3, Tryd.ntmps3
    go_wp2_with fail
    refine (mParse8_is S HT.out HQ).mono ?_; rintro e w1 ⟨rfl, hb1⟩
    have B1 := box hb1
    clear hb1
    go_wp2_with fail
    refine (rParse8_is S HQ).mono ?_; rintro e w2 ⟨rfl, rfl⟩
    go_wp2_with fail
    refine (awake8_any _ (HT.out.below B1.out)).mono ?_; rintro e w3 ⟨rfl, hb3⟩
    have B3 := box (B1.out.trans (hb3.mono B1.out.size))
    clear hb3
    go_wp2
    go_ret
    exact ⟨rfl, B3.out⟩
theorem in8 {n : Int} (h : (Lit.int .i64 n).wf = true) : InI64 n := by
  unfold InI64
  simp [Lit.wf, IntKind.min, IntKind.max, IntKind.bits, IntKind.signed] at h
  omega
theorem fmtQ_len (q : Int) : (fmtQ q).length ≤ 5 := by
  by_cases h : q < 0 ∨ 1000 < q
  · rw [qv_none q h]; simp
  · have key : ∀ n : Fin 1001, (fmtQ (n.1 : Int)).length ≤ 5 := by decide +kernel
    have := key ⟨q.toNat, by omega⟩
    simp only at this
    rwa [show ((q.toNat : Nat) : Int) = q from by omega] at this
theorem formats8_walk (q : Int) (w : World) (hw : (Lit.int .i64 q).wf = true) (hW : Wts w) :
    Calls Tryd.prog 4 #[.int .i64 q] w fun e w' => e = .returned (.bool true) ∧ Below w.heap.size w w' := by
  have HT := box hW
  clear hW
  have HI := in8 hw
  obtain ⟨x, hx⟩ : ∃ x, bs (fmtQ q) = x := ⟨_, rfl⟩
  have HX := box hx
  have hxz : x.size ≤ 9223372036854775807 := by rw [← hx, bs_size]; have := fmtQ_len q; omega
  have hxl : x.data.toList = fmtQ q := by rw [← hx, bs_toList]
  clear hx
  by_cases h : q < 0 ∨ 1000 < q
  · have HQ : Box (qvT (qvL x.data.toList) = .tuple #[.int .i64 0, .bool false]) := box (by rw [hxl, qv_none q h]; rfl)
    clear hxl
    have hd : (q < 0 ∧ decide (0 ≤ q) = false) ∨ (1000 < q ∧ decide (0 ≤ q) = true ∧ decide (q ≤ 1000) = false) := by
      rcases h with h | h
      · exact .inl ⟨h, decide_eq_false (by omega)⟩
      · exact .inr ⟨h, decide_eq_true (by omega), decide_eq_false (by omega)⟩
    clear h
    rcases hd with ⟨h, g1⟩ | ⟨h, g1, g2⟩
    all_goals
      go_enter Tryd.func4, Tryd.ntmps4
      go_wp2_with fail
      refine (mFormat8_is HI HT.out HX).mono ?_; rintro e w1 ⟨rfl, hb1⟩
      have B1 := box hb1
      clear hb1
      go_wp2_with fail
      refine (rFormat8_is HI HX).mono ?_; rintro e w2 ⟨rfl, hb2⟩
      have B2 := box (B1.out.trans (hb2.mono B1.out.size))
      clear hb2
      go_wp2_with fail
      refine (mParse8_is hxz (HT.out.below B2.out) HQ).mono ?_; rintro e w3 ⟨rfl, hb3⟩
      have B3 := box (B2.out.trans (hb3.mono B2.out.size))
      clear hb3
      go_wp2_with fail
      refine (awake8_any _ (HT.out.below B3.out)).mono ?_; rintro e w4 ⟨rfl, hb4⟩
      have B4 := box (B3.out.trans (hb4.mono B3.out.size))
      clear hb4
      go_wp2
      go_ret
      exact ⟨ret_bool (by first | rfl | (rw [decide_eq_false (by omega)]; rfl) | simp_all | omega), B4.out⟩
  · have h0 : 0 ≤ q := by omega
    have h1 : q ≤ 1000 := by omega
    have HQ : Box (qvT (qvL x.data.toList) = .tuple #[.int .i64 q, .bool true]) := box (by rw [hxl, qv_read q h0 h1]; rfl)
    clear hxl h
    go_enter Tryd.func4, Tryd.ntmps4
    go_wp2_with fail
    refine (mFormat8_is HI HT.out HX).mono ?_; rintro e w1 ⟨rfl, hb1⟩
    have B1 := box hb1
    clear hb1
    go_wp2_with fail
    refine (rFormat8_is HI HX).mono ?_; rintro e w2 ⟨rfl, hb2⟩
    have B2 := box (B1.out.trans (hb2.mono B1.out.size))
    clear hb2
    go_wp2_with fail
    refine (mParse8_is hxz (HT.out.below B2.out) HQ).mono ?_; rintro e w3 ⟨rfl, hb3⟩
    have B3 := box (B2.out.trans (hb3.mono B2.out.size))
    clear hb3
    go_wp2_with fail
    refine (awake8_any _ (HT.out.below B3.out)).mono ?_; rintro e w4 ⟨rfl, hb4⟩
    have B4 := box (B3.out.trans (hb4.mono B3.out.size))
    clear hb4
    go_wp2
    go_ret
    exact ⟨rfl, B4.out⟩
theorem zeros8_walk (s : ByteArray) (w : World) (S : s.size ≤ maxLen) (hW : Wts w) :
    Calls Tryd.prog 5 #[.string s] w fun e w' => e = .returned (.bool true) ∧ Below w.heap.size w w' := by
  have HT := box hW
  clear hW
  unfold maxLen at S
  by_cases h4 : 4 < s.size
  · have hi : (4 : Int) < (s.size : Int) := by omega
    go_enter Tryd.func5, Tryd.ntmps5
    go_wp2
    go_ret
    exact ⟨rfl, Below.refl _ _⟩
  · have hi : ¬ (4 : Int) < (s.size : Int) := by omega
    by_cases h3 : s.size < 3
    · have hj : (s.size : Int) < 3 := by omega
      go_enter Tryd.func5, Tryd.ntmps5
      go_wp2
      go_ret
      exact ⟨rfl, Below.refl _ _⟩
    · have hj : ¬ (s.size : Int) < 3 := by omega
      have hz : s.data.toList.length = s.size := by simp
      obtain ⟨a, b, hq⟩ : ∃ a b, qvT (qvL s.data.toList) = .tuple #[.int .i64 a, .bool b] := ⟨_, _, rfl⟩
      have HQ := box hq
      have r0 : ∀ w, (Op.stringOp .add s ⟨#[48]⟩).run Tryd.prog w = .ok (.string (s ++ ⟨#[48]⟩)) w := fun w => run_string_add_sum w _ _ (by show s.size + 1 ≤ 9223372036854775807; omega)
      have hs2 : (s ++ (⟨#[48]⟩ : ByteArray)).size ≤ 9223372036854775807 := by rw [ByteArray.size_append]; show s.size + 1 ≤ _; omega
      have HQ2 : Box (qvT (qvL (s ++ (⟨#[48]⟩ : ByteArray)).data.toList) = .tuple #[.int .i64 a, .bool b]) := box (by
        rw [← hq]
        have e : (s ++ (⟨#[48]⟩ : ByteArray)).data.toList = s.data.toList ++ [48] := by simp [ByteArray.data_append]
        rw [e, zero_last _ (by omega) (by omega)])
      clear hq hz
      go_enter Tryd.func5, Tryd.ntmps5
      go_wp2_with fail
      refine (mParse8_is S HT.out HQ).mono ?_; rintro e w1 ⟨rfl, hb1⟩
      have B1 := box hb1
      clear hb1
      go_wp2_with fail
      refine (mParse8_is hs2 (HT.out.below B1.out) HQ2).mono ?_; rintro e w2 ⟨rfl, hb2⟩
      have B2 := box (B1.out.trans (hb2.mono B1.out.size))
      clear hb2
      go_wp2_with fail
      refine (awake8_any _ (HT.out.below B2.out)).mono ?_; rintro e w3 ⟨rfl, hb3⟩
      have B3 := box (B2.out.trans (hb3.mono B2.out.size))
      clear hb3
      go_wp2
      go_ret
      exact ⟨rfl, B3.out⟩

end Go.Proofs.YtlimfofjhedikaaDoor.Asc
