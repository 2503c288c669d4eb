/- The walks of the laws of stage 21: EtagParses, EtagCompares, EtagBack. -/
import Derived.Test.YtchbhpfloinbdaaEtaMine
import Derived.Test.YtchbhpfloinbdaaEtaRef2
import Derived.Deep.RegionHeld3
set_option linter.unusedVariables false
set_option linter.unusedSimpArgs false
set_option maxRecDepth 100000
namespace Go.Proofs.Ytchbhpfloinbdaa.Asc
open Go.RowKit

theorem mStrongE_is {b c q : Bool} {t u : ByteArray} {w : World} (h : Box (strongE (b, t) (c, u) = q)) :
    Calls Try.prog 19 #[.agg #[.bool b, .string t], .agg #[.bool c, .string u]] w fun e w' => e = .returned (.bool q) ∧ Below w.heap.size w w' :=
  (mStrongE_any b c t u w).mono fun e w' ⟨h1, h2⟩ => ⟨by rw [h1, h.out], h2⟩
theorem rStrongE_is {b c q : Bool} {t u : ByteArray} {w : World} (h : Box (strongE (b, t) (c, u) = q)) :
    Calls Try.prog 20 #[.agg #[.bool b, .string t], .agg #[.bool c, .string u]] w fun e w' => e = .returned (.bool q) ∧ Below w.heap.size w w' :=
  (rStrongE_any b c t u w).mono fun e w' ⟨h1, h2⟩ => ⟨by rw [h1, h.out], h2⟩
theorem rWeakE_is {b c q : Bool} {t u : ByteArray} {w : World} (h : Box (weakE (b, t) (c, u) = q)) :
    Calls Try.prog 22 #[.agg #[.bool b, .string t], .agg #[.bool c, .string u]] w fun e w' => e = .returned (.bool q) ∧ Below w.heap.size w w' :=
  (rWeakE_any b c t u w).mono fun e w' ⟨h1, h2⟩ => ⟨by rw [h1, h.out], h2⟩
theorem aw21a : tgV (parE (⟨#[87, 47, 34, 97, 34]⟩ : ByteArray).data.toList) = .tuple #[.agg #[.bool true, .string ⟨#[97]⟩], .bool true] := by
  rw [show parE (⟨#[87, 47, 34, 97, 34]⟩ : ByteArray).data.toList = some (true, bs [97]) from by decide]; rfl
theorem aw21b : tgV (parE (⟨#[34, 97, 34]⟩ : ByteArray).data.toList) = .tuple #[.agg #[.bool false, .string ⟨#[97]⟩], .bool true] := by
  rw [show parE (⟨#[34, 97, 34]⟩ : ByteArray).data.toList = some (false, bs [97]) from by decide]; rfl
theorem awake21_any (w : World) : Calls Try.prog 12 #[] w fun e w' => e = .returned (.bool true) ∧ Below w.heap.size w w' := by
  have H1 : Box (weakE (true, ⟨#[97]⟩) (false, ⟨#[97]⟩) = true) := box (by decide)
  have H2 : Box (strongE (true, ⟨#[97]⟩) (false, ⟨#[97]⟩) = false) := box (by decide)
  have H3 : Box (strongE (false, ⟨#[97]⟩) (false, ⟨#[97]⟩) = true) := box (by decide)
  go_enter Try.func12, Try.ntmps12
  go_wp2_with fail
  refine (mParE_is (by decide) (box aw21a)).mono ?_; rintro e w1 ⟨rfl, hb1⟩
  have B1 := box hb1
  have B1' := box (B1.out.alloc B1.out.size (.cells #[.bool true, .string ⟨#[97]⟩] 23))
  have X1 := box (T2.new (.bool true) (.string ⟨#[97]⟩) w1 23)
  clear hb1
  go_wp2_with fail
  refine (mParE_is (by decide) (box aw21b)).mono ?_; rintro e w2 ⟨rfl, hb2⟩
  have B2 := box (B1'.out.trans (hb2.mono B1'.out.size))
  have B2' := box (B2.out.alloc B2.out.size (.cells #[.bool false, .string ⟨#[97]⟩] 23))
  have X2 := box ((X1.out.next hb2).next (below_new w2 (.cells #[.bool false, .string ⟨#[97]⟩] 23)))
  have Y2 := box (T2.new (.bool false) (.string ⟨#[97]⟩) w2 23)
  clear hb2
  obtain ⟨⟨x0, x1⟩, _⟩ := X2.out
  obtain ⟨⟨y0, y1⟩, _⟩ := Y2.out
  go_wp2_with fail
  refine (mWeakE_is H1).mono ?_; rintro e w3 ⟨rfl, hb3⟩
  have B3 := box (B2'.out.trans (hb3.mono B2'.out.size))
  have X3 := box (X2.out.next hb3)
  have Y3 := box (Y2.out.next hb3)
  clear hb3 x0 x1 y0 y1
  obtain ⟨⟨x0, x1⟩, _⟩ := X3.out
  obtain ⟨⟨y0, y1⟩, _⟩ := Y3.out
  go_wp2_with fail
  refine (mStrongE_is H2).mono ?_; rintro e w4 ⟨rfl, hb4⟩
  have B4 := box (B3.out.trans (hb4.mono B3.out.size))
  have Y4 := box (Y3.out.next hb4)
  clear hb4 x0 x1 y0 y1
  obtain ⟨⟨y0, y1⟩, _⟩ := Y4.out
  go_wp2_with fail
  refine (mStrongE_is H3).mono ?_; rintro e w5 ⟨rfl, hb5⟩
  have B5 := box (B4.out.trans (hb5.mono B4.out.size))
  clear hb5 y0 y1
  go_wp2
  go_ret
  exact ⟨rfl, B5.out⟩
/-- the law's tag, and the two that were read -/
structure Tri21 (w : World) (g1 g2 : Nat) (c0 c1 d0 d1 : Value) (w' : World) : Prop where
  e : T2 w.heap.size c0 c1 w'
  x : T2 g1 d0 d1 w'
  y : T2 g2 d0 d1 w'
  b : Below w.heap.size w w'
section
variable {w w' w'' : World} {g1 g2 : Nat} {c0 c1 d0 d1 : Value}
theorem Tri21.next (h : Tri21 w g1 g2 c0 c1 d0 d1 w') (hb : Below w'.heap.size w' w'') : Tri21 w g1 g2 c0 c1 d0 d1 w'' :=
  ⟨h.e.next hb, h.x.next hb, h.y.next hb, h.b.trans (hb.mono h.b.size)⟩
theorem Tri21.drewN {n : Nat} (h : Tri21 w g1 g2 c0 c1 d0 d1 w') : Tri21 w g1 g2 c0 c1 d0 d1 (w'.drewN n) := h.next (below_drewN _ _)
theorem Tri21.cells (h : Tri21 w g1 g2 c0 c1 d0 d1 w') : w'.cell? ⟨w.heap.size, 0, none⟩ = some c0 ∧ w'.cell? ⟨w.heap.size, 1, none⟩ = some c1 ∧ w'.cell? ⟨g1, 0, none⟩ = some d0 ∧ w'.cell? ⟨g1, 1, none⟩ = some d1 ∧ w'.cell? ⟨g2, 0, none⟩ = some d0 ∧ w'.cell? ⟨g2, 1, none⟩ = some d1 :=
  ⟨h.e.1.1, h.e.1.2, h.x.1.1, h.x.1.2, h.y.1.1, h.y.1.2⟩
end
theorem parses21_long (s : ByteArray) (b : Bool) (t : ByteArray) (w : World) (hs : s.size ≤ 9223372036854775807) (ht : t.size ≤ 9223372036854775807) (h : 1000 < s.size ∨ (¬ 1000 < s.size ∧ 1000 < t.size)) :
    Calls Try.prog 3 #[.string s, .agg #[.bool b, .string t]] w fun e w' => e = .returned (.bool true) ∧ Below w.heap.size w w' := by
  rcases h with h | ⟨h1, h⟩
  · have i1 : (1000 : Int) < (s.size : Int) := by omega
    go_enter Try.func3, Try.ntmps3
    go_wp2
    go_ret
    exact ⟨rfl, below_new _ _⟩
  · have i1 : ¬ (1000 : Int) < (s.size : Int) := by omega
    have i2 : (1000 : Int) < (t.size : Int) := by omega
    go_enter Try.func3, Try.ntmps3
    go_wp2
    go_ret
    exact ⟨rfl, below_new _ _⟩
set_option maxHeartbeats 4000000 in
theorem parses21_in (s : ByteArray) (b : Bool) (t : ByteArray) (w : World) (hs : s.size ≤ 1000) (ht : t.size ≤ 1000) :
    Calls Try.prog 3 #[.string s, .agg #[.bool b, .string t]] w fun e w' => e = .returned (.bool true) ∧ Below w.heap.size w w' := by
  have i1 : ¬ (1000 : Int) < (s.size : Int) := by omega
  have i2 : ¬ (1000 : Int) < (t.size : Int) := by omega
  have hs6 : s.size ≤ 65000 := by omega
  have ht6 : t.size ≤ 65000 := by omega
  obtain ⟨p, z, q, hq⟩ : ∃ p z q, tgV (parE s.data.toList) = .tuple #[.agg #[.bool p, .string z], .bool q] := by
    cases parE s.data.toList with
    | none => exact ⟨_, _, _, rfl⟩
    | some e => exact ⟨_, _, _, rfl⟩
  have HQ := box hq
  obtain ⟨f, hf⟩ : ∃ f, bs (fmtL (b, t)) = f := ⟨_, rfl⟩
  have HF := box hf
  have sz : (z.toList == z.toList) = true := by simp
  have sf : (f.toList == f.toList) = true := by simp
  have sp : (p == p) = true := by simp
  have sq : (q == q) = true := by simp
  have E0 := box (T2.new (.bool b) (.string t) w 23)
  have B0 := box (below_new w (.cells #[.bool b, .string t] 23))
  clear hq hf
  go_enter Try.func3, Try.ntmps3
  go_wp2_with fail
  refine (mParE_is hs6 HQ).mono ?_; rintro e w1 ⟨rfl, hb1⟩
  have hn1 := below_new w1 (.cells #[.bool p, .string z] 23)
  have E1 := box ((E0.out.next hb1).next hn1)
  have X1 := box (T2.new (.bool p) (.string z) w1 23)
  have B1 := box ((B0.out.trans (hb1.mono B0.out.size)).trans (hn1.mono (B0.out.trans (hb1.mono B0.out.size)).size))
  clear hb1 hn1
  go_wp2_with fail
  refine (rParE_is hs6 HQ).mono ?_; rintro e w2 ⟨rfl, hb2⟩
  have hn2 := below_new w2 (.cells #[.bool p, .string z] 23)
  have K0 : Box (Tri21 w w1.heap.size w2.heap.size (.bool b) (.string t) (.bool p) (.string z) (w2.alloc (.cells #[.bool p, .string z] 23))) := box ⟨(E1.out.next hb2).next hn2, (X1.out.next hb2).next hn2, T2.new _ _ _ _, (B1.out.trans (hb2.mono B1.out.size)).trans (hn2.mono (B1.out.trans (hb2.mono B1.out.size)).size)⟩
  clear hb2 hn2
  go_wp2
  go_region_held3 (fun w' => w'.cell? ⟨w.heap.size, 0, none⟩ = some (.bool b) ∧ w'.cell? ⟨w.heap.size, 1, none⟩ = some (.string t) ∧ w'.cell? ⟨w1.heap.size, 0, none⟩ = some (.bool p) ∧ w'.cell? ⟨w1.heap.size, 1, none⟩ = some (.string z) ∧ w'.cell? ⟨w2.heap.size, 0, none⟩ = some (.bool p) ∧ w'.cell? ⟨w2.heap.size, 1, none⟩ = some (.string z)) (first | exact K3.out.cells | exact K2.out.cells | exact K1.out.cells | exact K0.out.cells | exact (K0.out.drewN).cells) (first | (go_at_call 12; refine (awake21_any _).mono ?_; rintro e u3 ⟨rfl, hu⟩; have K3 := box ((K2.out).next hu); clear hu) | (go_at_call 11; refine (rFmtE_is ht6 HF).mono ?_; rintro e u2 ⟨rfl, hu⟩; have K2 := box ((K1.out).next hu); clear hu) | (go_at_call 10; refine (mFmtE_is ht6 HF).mono ?_; rintro e u1 ⟨rfl, hu⟩; have K1 := box ((K0.out.drewN).next hu); clear hu))
  all_goals
    go_wp2
    go_ret
    exact ⟨rfl, K3.out.b⟩
theorem parses21_walk (s : ByteArray) (b : Bool) (t : ByteArray) (w : World) (S : s.size ≤ maxLen) (T : t.size ≤ maxLen) :
    Calls Try.prog 3 #[.string s, .agg #[.bool b, .string t]] w fun e w' => e = .returned (.bool true) ∧ Below w.heap.size w w' := by
  by_cases h1 : 1000 < s.size
  · exact parses21_long s b t w S T (.inl h1)
  · by_cases h2 : 1000 < t.size
    · exact parses21_long s b t w S T (.inr ⟨h1, h2⟩)
    · exact parses21_in s b t w (by omega) (by omega)

end Go.Proofs.Ytchbhpfloinbdaa.Asc
