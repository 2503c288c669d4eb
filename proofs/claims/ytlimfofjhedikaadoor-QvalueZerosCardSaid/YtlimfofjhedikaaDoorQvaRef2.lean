/- The contract of the reference's FormatQ. -/
import Derived.Test.YtlimfofjhedikaaDoorQvaRef
import Derived.Test.YtlimfofjhedikaaDoorAscRDec
set_option linter.unusedVariables false
set_option linter.unusedSimpArgs false
set_option maxRecDepth 100000
namespace Go.Proofs.YtlimfofjhedikaaDoor.Asc
open Go.RowKit

theorem strip_three (a b c : UInt8) : stripF 3 [a, b, c] = if c = 48 then (if b = 48 then (if a = 48 then [] else [a]) else [a, b]) else [a, b, c] := by
  unfold stripF
  by_cases hc : c = 48
  · rw [if_pos (by simp [hc]), if_pos hc]
    show stripF 2 [a, b] = _
    unfold stripF
    by_cases hb : b = 48
    · rw [if_pos (by simp [hb]), if_pos hb]
      show stripF 1 [a] = _
      unfold stripF
      by_cases ha : a = 48
      · rw [if_pos (by simp [ha]), if_pos ha]; rfl
      · rw [if_neg (by simp [ha]), if_neg ha]
    · rw [if_neg (by simp [hb]), if_neg hb]
  · rw [if_neg (by simp [hc]), if_neg hc]
theorem three_not (q : Int) (h0 : 0 < q) (h1 : q < 1000) : ∃ a b c : UInt8, threeL q.toNat = [a, b, c] ∧ ¬ (a = 48 ∧ b = 48 ∧ c = 48) := by
  have key : ∀ n : Fin 1000, n.1 = 0 ∨ ¬ (digC (n.1 / 100 % 10) = 48 ∧ digC (n.1 / 10 % 10) = 48 ∧ digC (n.1 % 10) = 48) := by decide +kernel
  refine ⟨_, _, _, rfl, ?_⟩
  rcases key ⟨q.toNat, by omega⟩ with h | h
  · exfalso; have : q.toNat = 0 := h; omega
  · exact h
theorem rDec8_is {n : Int} {x : ByteArray} {w : World} (h1 : InI64 n) (h : Box (bs (decL n) = x)) :
    Calls Tryd.prog 16 #[.int .i64 n] w fun e w' => e = .returned (.string x) ∧ Below w.heap.size w w' :=
  (rDecimal_any n w h1).mono fun e w' ⟨h1, h2⟩ => ⟨by rw [h1, ← h.out]; rfl, h2⟩
def strN : Value → Nat
  | .string s => s.size
  | _ => 0
def QfRel (a b c : UInt8) (v : Value) : Prop := v = .string ⟨#[a, b, c]⟩ ∨ (c = 48 ∧ v = .string ⟨#[a, b]⟩) ∨ (c = 48 ∧ b = 48 ∧ v = .string ⟨#[a]⟩)
theorem int48 {c : UInt8} : (((c.toNat : Nat) : Int) == 48) = decide (c = 48) := by
  by_cases h : c = 48
  · subst h; rfl
  · rw [decide_eq_false h, beq_eq_false_iff_ne]
    exact fun e => h (byte8 (d := 48) e)
set_option maxHeartbeats 2000000 in
theorem rFormatQ_in (q : Int) (w : World) (h0 : 0 < q) (h1 : q < 1000) :
    Calls Tryd.prog 10 #[.int .i64 q] w fun e w' => e = .returned (.string (bs (fmtQ q))) ∧ Below w.heap.size w w' := by
  obtain ⟨a, b, c, ht, hn⟩ := three_not q h0 h1
  have HD : Box (bs (decL (1000 + q)) = ⟨#[49, a, b, c]⟩) := box (by rw [dec_four q (by omega) h1, ht]; rfl)
  have HF : Box (fmtQ q = 48 :: 46 :: (if c = 48 then (if b = 48 then [a] else [a, b]) else [a, b, c])) := box (by
    unfold fmtQ
    rw [if_neg (by omega), if_neg (by omega), if_neg (by omega), ht, strip_three]
    by_cases hc : c = 48
    · by_cases hb : b = 48
      · rw [if_pos hc, if_pos hb, if_neg (fun ha => hn ⟨ha, hb, hc⟩), if_pos hc, if_pos hb]
      · rw [if_pos hc, if_neg hb, if_pos hc, if_neg hb]
    · rw [if_neg hc, if_neg hc])
  have HI : InI64 (1000 + q) := ⟨by omega, by omega⟩
  have i1 : ¬ q < 0 := by omega
  have i2 : ¬ 1000 < q := by omega
  have i3 : (q == 0) = false := by rw [beq_eq_false_iff_ne]; omega
  have i4 : (q == 1000) = false := by rw [beq_eq_false_iff_ne]; omega
  have hx : (⟨#[49, a, b, c]⟩ : ByteArray).extract 1 4 = ⟨#[a, b, c]⟩ := by rw [ext_bs]; rfl
  clear ht
  go_enter Tryd.func10, Tryd.ntmps10
  go_wp2_with fail
  refine (rDec8_is HI HD).mono ?_; rintro e w1 ⟨rfl, hb1⟩
  have B1 := box hb1
  clear hb1
  go_wp2
  have hx2 : (⟨#[a, b, c]⟩ : ByteArray).extract 0 2 = ⟨#[a, b]⟩ := by rw [ext_bs]; rfl
  have hx1 : (⟨#[a, b]⟩ : ByteArray).extract 0 1 = ⟨#[a]⟩ := by rw [ext_bs]; rfl
  have ad : ∀ (y : ByteArray), y.size ≤ 10 → ∀ w, (Op.stringOp .add ⟨#[48, 46]⟩ y).run Tryd.prog w = .ok (.string (⟨#[48, 46]⟩ ++ y)) w := fun y hy w => run_string_add_sum w _ _ (by show 2 + y.size ≤ 9223372036854775807; omega)
  have ad1 := ad ⟨#[a, b, c]⟩ (by show 3 ≤ 10; omega)
  have ad2 := ad ⟨#[a, b]⟩ (by show 2 ≤ 10; omega)
  have ad3 := ad ⟨#[a]⟩ (by show 1 ≤ 10; omega)
  have gx2 : (⟨#[a, b, c]⟩ : ByteArray)[2]'(by show 2 < 3; decide) = c := rfl
  have gx1 : (⟨#[a, b]⟩ : ByteArray)[1]'(by show 1 < 2; decide) = b := rfl
  have gx0 : (⟨#[a]⟩ : ByteArray)[0]'(by show 0 < 1; decide) = a := rfl
  clear ad
  go_loop [3] (fun v => QfRel a b c v) (fun v => strN v)
  case atStart => exact .inl rfl
  case round =>
    have HREL := box hrel
    rcases hrel with rfl | ⟨hc, rfl⟩ | ⟨hc, hb, rfl⟩
    · by_cases hc : c = 48
      · have e8 : (((c.toNat : Nat) : Int) == 48) = true := by rw [int48, decide_eq_true hc]
        go_wp2
        go_round
        case rel => exact .inr (.inl ⟨hc, rfl⟩)
        case measure => show min 2 3 < 3; decide
      · have e8 : (((c.toNat : Nat) : Int) == 48) = false := by rw [int48, decide_eq_false hc]
        have HE : Box ((⟨#[48, 46]⟩ : ByteArray) ++ ⟨#[a, b, c]⟩ = bs (fmtQ q)) := box (by rw [HF.out, if_neg hc]; rfl)
        go_wp2
        go_ret
        exact ⟨by rw [← HE.out]; rfl, B1.out⟩
    · by_cases hb : b = 48
      · have e8 : (((b.toNat : Nat) : Int) == 48) = true := by rw [int48, decide_eq_true hb]
        go_wp2
        go_round
        case rel => exact .inr (.inr ⟨hc, hb, rfl⟩)
        case measure => show min 1 2 < 2; decide
      · have e8 : (((b.toNat : Nat) : Int) == 48) = false := by rw [int48, decide_eq_false hb]
        have HE : Box ((⟨#[48, 46]⟩ : ByteArray) ++ ⟨#[a, b]⟩ = bs (fmtQ q)) := box (by rw [HF.out, if_pos hc, if_neg hb]; rfl)
        go_wp2
        go_ret
        exact ⟨by rw [← HE.out]; rfl, B1.out⟩
    · have ha : ¬ a = 48 := fun ha => hn ⟨ha, hb, hc⟩
      have e8 : (((a.toNat : Nat) : Int) == 48) = false := by rw [int48, decide_eq_false ha]
      have HE : Box ((⟨#[48, 46]⟩ : ByteArray) ++ ⟨#[a]⟩ = bs (fmtQ q)) := box (by rw [HF.out, if_pos hc, if_pos hb]; rfl)
      go_wp2
      go_ret
      exact ⟨by rw [← HE.out]; rfl, B1.out⟩
theorem rFormatQ_any (q : Int) (w : World) (h : InI64 q) :
    Calls Tryd.prog 10 #[.int .i64 q] w fun e w' => e = .returned (.string (bs (fmtQ q))) ∧ Below w.heap.size w w' := by
  by_cases h1 : q < 0
  · have HE : Box (fmtQ q = []) := box (qv_none q (.inl h1))
    go_enter Tryd.func10, Tryd.ntmps10
    go_wp2
    go_ret
    exact ⟨by rw [HE.out]; rfl, Below.refl _ _⟩
  · by_cases h2 : 1000 < q
    · have HE : Box (fmtQ q = []) := box (qv_none q (.inr h2))
      go_enter Tryd.func10, Tryd.ntmps10
      go_wp2
      go_ret
      exact ⟨by rw [HE.out]; rfl, Below.refl _ _⟩
    · by_cases h3 : q = 0
      · subst h3
        have HE : Box (fmtQ 0 = [48]) := box (by decide)
        go_enter Tryd.func10, Tryd.ntmps10
        go_wp2
        go_ret
        exact ⟨by rw [HE.out]; rfl, Below.refl _ _⟩
      · by_cases h4 : q = 1000
        · subst h4
          have HE : Box (fmtQ 1000 = [49]) := box (by decide)
          go_enter Tryd.func10, Tryd.ntmps10
          go_wp2
          go_ret
          exact ⟨by rw [HE.out]; rfl, Below.refl _ _⟩
        · exact rFormatQ_in q w (by omega) (by omega)

end Go.Proofs.YtlimfofjhedikaaDoor.Asc
