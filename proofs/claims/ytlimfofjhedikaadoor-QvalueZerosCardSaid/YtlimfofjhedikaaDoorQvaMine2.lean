/- The contracts of package qvalue's Format, over the developers' code of 166ae01. -/
import Derived.Test.YtlimfofjhedikaaDoorQvaMine
set_option linter.unusedVariables false
set_option linter.unusedSimpArgs false
set_option maxRecDepth 100000
namespace Go.Proofs.YtlimfofjhedikaaDoor.Asc
open Go.RowKit

def FfRel (A B C : Nat) (t d i : Value) : Prop :=
  (i = .int .i64 0 ∧ t = .int .i64 (100 * A + 10 * B + C) ∧ d = .string ⟨#[]⟩) ∨
  (i = .int .i64 1 ∧ t = .int .i64 (10 * B + C) ∧ d = .string ⟨#[digC A]⟩) ∨
  (i = .int .i64 2 ∧ t = .int .i64 C ∧ d = .string ⟨#[digC A, digC B]⟩ ∧ 0 < 10 * B + C) ∨
  (i = .int .i64 3 ∧ t = .int .i64 0 ∧ d = .string ⟨#[digC A, digC B, digC C]⟩ ∧ 0 < C)
def ffS (A B C : Nat) : List UInt8 := if C = 0 then (if B = 0 then [digC A] else [digC A, digC B]) else [digC A, digC B, digC C]
theorem formatFraction_any (A B C : Nat) (w : World) (hA : A < 10) (hB : B < 10) (hC : C < 10) (hp : 0 < 100 * A + 10 * B + C) (hW : Wts w) :
    Calls Tryd.prog 15 #[.int .i64 (100 * A + 10 * B + C)] w fun e w' => e = .returned (.string (bs (ffS A B C))) ∧ Below w.heap.size w w' := by
  have HT := box hW
  clear hW
  go_enter Tryd.func15, Tryd.ntmps15
  go_wp2
  go_loopw [0, 3, 4] (fun t d i wr => FfRel A B C t d i ∧ Below w.heap.size w wr) (fun _ _ i _ => 3 - (intOf i).toNat)
  case atStart => exact ⟨.inl ⟨rfl, rfl, rfl⟩, Below.refl _ _⟩
  case round =>
    obtain ⟨hr, hb⟩ := hrel
    have HB := box hb
    obtain ⟨hw0, hw1, hw2, _⟩ := HT.out.below hb
    clear hb
    rcases hr with ⟨rfl, rfl, rfl⟩ | ⟨rfl, rfl, rfl⟩ | ⟨rfl, rfl, rfl, hg⟩ | ⟨rfl, rfl, rfl, hg⟩
    · clear hw1 hw2
      have ad : ∀ w, (Op.stringOp .add ⟨#[]⟩ ⟨#[digC A]⟩).run Tryd.prog w = .ok (.string (⟨#[]⟩ ++ ⟨#[digC A]⟩)) w := fun w => run_string_add_sum w _ _ (by show 0 + 1 ≤ 9223372036854775807; omega)
      have ea : ((⟨#[]⟩ : ByteArray) ++ ⟨#[digC A]⟩) = ⟨#[digC A]⟩ := rfl
      go_wp2_with fail
      refine (Dec8_is (x := ⟨#[digC A]⟩) ⟨by omega, by omega⟩ (box (by rw [show ((100 * (A : Int) + 10 * (B : Int) + (C : Int)) / 100) = (A : Int) from by omega, dec_dig A hA]; rfl))).mono ?_; rintro e w1 ⟨rfl, hb1⟩
      have B1 := box (HB.out.trans (hb1.mono HB.out.size))
      obtain ⟨hv0, hv1, hv2, _⟩ := HT.out.below B1.out
      clear hb1
      go_wp2
      go_roundw
      case rel => exact ⟨.inr (.inl ⟨rfl, by go_num, rfl⟩), B1.out⟩
      case measure => simp [intOf]
    · by_cases h : 10 * B + C = 0
      · have e : ffS A B C = [digC A] := by unfold ffS; rw [if_pos (by omega), if_pos (by omega)]
        have E := box e
        clear e
        go_wp2
        go_ret
        exact ⟨by rw [E.out]; rfl, HB.out⟩
      · have hq : (0 : Int) < 10 * B + C := by omega
        clear hw0 hw2
        have ad : ∀ w, (Op.stringOp .add ⟨#[digC A]⟩ ⟨#[digC B]⟩).run Tryd.prog w = .ok (.string (⟨#[digC A]⟩ ++ ⟨#[digC B]⟩)) w := fun w => run_string_add_sum w _ _ (by show 1 + 1 ≤ 9223372036854775807; omega)
        have ea : ((⟨#[digC A]⟩ : ByteArray) ++ ⟨#[digC B]⟩) = ⟨#[digC A, digC B]⟩ := rfl
        go_wp2_with fail
        refine (Dec8_is (x := ⟨#[digC B]⟩) ⟨by omega, by omega⟩ (box (by rw [show ((10 * (B : Int) + (C : Int)) / 10) = (B : Int) from by omega, dec_dig B hB]; rfl))).mono ?_; rintro e w1 ⟨rfl, hb1⟩
        have B1 := box (HB.out.trans (hb1.mono HB.out.size))
        obtain ⟨hv0, hv1, hv2, _⟩ := HT.out.below B1.out
        clear hb1
        go_wp2
        go_roundw
        case rel => exact ⟨.inr (.inr (.inl ⟨rfl, by go_num, rfl, by omega⟩)), B1.out⟩
        case measure => simp [intOf]
    · by_cases h : C = 0
      · have e : ffS A B C = [digC A, digC B] := by unfold ffS; rw [if_pos h, if_neg (by omega)]
        have E := box e
        clear e
        go_wp2
        go_ret
        exact ⟨by rw [E.out]; rfl, HB.out⟩
      · have hq : (0 : Int) < C := by omega
        clear hw0 hw1
        have ad : ∀ w, (Op.stringOp .add ⟨#[digC A, digC B]⟩ ⟨#[digC C]⟩).run Tryd.prog w = .ok (.string (⟨#[digC A, digC B]⟩ ++ ⟨#[digC C]⟩)) w := fun w => run_string_add_sum w _ _ (by show 2 + 1 ≤ 9223372036854775807; omega)
        have ea : ((⟨#[digC A, digC B]⟩ : ByteArray) ++ ⟨#[digC C]⟩) = ⟨#[digC A, digC B, digC C]⟩ := rfl
        go_wp2_with fail
        refine (Dec8_is (x := ⟨#[digC C]⟩) ⟨by omega, by omega⟩ (box (by first | rw [dec_dig C hC]; rfl | (rw [show ((C : Int) / 1) = (C : Int) from by omega, dec_dig C hC]; rfl)))).mono ?_; rintro e w1 ⟨rfl, hb1⟩
        have B1 := box (HB.out.trans (hb1.mono HB.out.size))
        obtain ⟨hv0, hv1, hv2, _⟩ := HT.out.below B1.out
        clear hb1
        go_wp2
        go_roundw
        case rel => exact ⟨.inr (.inr (.inr ⟨rfl, by go_num, rfl, by omega⟩)), B1.out⟩
        case measure => simp [intOf]
    · have e : ffS A B C = [digC A, digC B, digC C] := by unfold ffS; rw [if_neg (by omega)]
      have E := box e
      clear e
      go_wp2
      go_ret
      exact ⟨by rw [E.out]; rfl, HB.out⟩
theorem ff_fmt (A B C : Nat) (hA : A < 10) (hB : B < 10) (hC : C < 10) (hp : 0 < 100 * A + 10 * B + C) : fmtQ (100 * A + 10 * B + C) = 48 :: 46 :: ffS A B C := by
  have hn : (100 * (A : Int) + 10 * (B : Int) + (C : Int)).toNat = 100 * A + 10 * B + C := by omega
  have h3 : threeL (100 * A + 10 * B + C) = [digC A, digC B, digC C] := by
    unfold threeL
    rw [show (100 * A + 10 * B + C) / 100 % 10 = A from by omega, show (100 * A + 10 * B + C) / 10 % 10 = B from by omega, show (100 * A + 10 * B + C) % 10 = C from by omega]
  unfold fmtQ
  rw [if_neg (by omega), if_neg (by omega), if_neg (by omega), hn, h3, strip_three]
  unfold ffS
  by_cases hc : C = 0
  · rw [if_pos ((digC_zero C hC).2 hc), if_pos hc]
    by_cases hb : B = 0
    · rw [if_pos ((digC_zero B hB).2 hb), if_pos hb, if_neg (fun q => by have := (digC_zero A hA).1 q; omega)]
    · rw [if_neg (fun q => hb ((digC_zero B hB).1 q)), if_neg hb]
  · rw [if_neg (fun q => hc ((digC_zero C hC).1 q)), if_neg hc]
theorem mFormat8_in (A B C : Nat) (w : World) (hA : A < 10) (hB : B < 10) (hC : C < 10) (hp : 0 < 100 * A + 10 * B + C) (hW : Wts w) :
    Calls Tryd.prog 9 #[.int .i64 (100 * A + 10 * B + C)] w fun e w' => e = .returned (.string (bs (fmtQ (100 * A + 10 * B + C)))) ∧ Below w.heap.size w w' := by
  have HF := box (ff_fmt A B C hA hB hC hp)
  have HT := box hW
  have hm : ((100 * (A : Int) + 10 * B + C) % 1000 == 0) = false := by rw [beq_eq_false_iff_ne]; omega
  have i1 : ¬ (100 * (A : Int) + 10 * B + C) < 0 := by omega
  have i2 : ¬ 1000 < (100 * (A : Int) + 10 * B + C) := by omega
  have hz : (bs (ffS A B C)).size ≤ 3 := by
    rw [bs_size]; unfold ffS
    split
    · split <;> simp
    · simp
  have ad : ∀ w, (Op.stringOp .add ⟨#[48, 46]⟩ (bs (ffS A B C))).run Tryd.prog w = .ok (.string (⟨#[48, 46]⟩ ++ bs (ffS A B C))) w := fun w => run_string_add_sum w _ _ (by show 2 + (bs (ffS A B C)).size ≤ 9223372036854775807; omega)
  clear hz hW
  go_enter Tryd.func9, Tryd.ntmps9
  go_wp2_with fail
  refine (formatFraction_any A B C _ hA hB hC hp HT.out).mono ?_; rintro e w1 ⟨rfl, hb⟩
  go_wp2
  go_ret
  exact ⟨by rw [HF.out]; rfl, hb⟩
theorem mFormat8_any (q : Int) (w : World) (h : InI64 q) (hW : Wts w) :
    Calls Tryd.prog 9 #[.int .i64 q] w fun e w' => e = .returned (.string (bs (fmtQ q))) ∧ Below w.heap.size w w' := by
  by_cases h1 : q < 0
  · have HE : Box (fmtQ q = []) := box (qv_none q (.inl h1))
    go_enter Tryd.func9, Tryd.ntmps9
    go_wp2
    go_ret
    exact ⟨by rw [HE.out]; rfl, Below.refl _ _⟩
  · by_cases h2 : 1000 < q
    · have HE : Box (fmtQ q = []) := box (qv_none q (.inr h2))
      go_enter Tryd.func9, Tryd.ntmps9
      go_wp2
      go_ret
      exact ⟨by rw [HE.out]; rfl, Below.refl _ _⟩
    · by_cases h3 : q = 0
      · subst h3
        have HE : Box (bs (fmtQ 0) = ⟨#[48]⟩) := box (by decide)
        have HD : Box (bs (decL 0) = ⟨#[48]⟩) := box (by decide +kernel)
        clear hW
        go_enter Tryd.func9, Tryd.ntmps9
        go_wp2_with fail
        refine (Dec8_is ⟨by omega, by omega⟩ HD).mono ?_; rintro e w1 ⟨rfl, hb⟩
        go_wp2
        go_ret
        exact ⟨by rw [HE.out]; rfl, hb⟩
      · by_cases h4 : q = 1000
        · subst h4
          have HE : Box (bs (fmtQ 1000) = ⟨#[49]⟩) := box (by decide)
          have HD : Box (bs (decL 1) = ⟨#[49]⟩) := box (by decide +kernel)
          clear hW
          go_enter Tryd.func9, Tryd.ntmps9
          go_wp2_with fail
          refine (Dec8_is ⟨by omega, by omega⟩ HD).mono ?_; rintro e w1 ⟨rfl, hb⟩
          go_wp2
          go_ret
          exact ⟨by rw [HE.out]; rfl, hb⟩
        · have e : q = 100 * ((q.toNat / 100 : Nat) : Int) + 10 * ((q.toNat / 10 % 10 : Nat) : Int) + ((q.toNat % 10 : Nat) : Int) := by omega
          rw [e]
          exact mFormat8_in _ _ _ w (by omega) (by omega) (by omega) (by omega) hW

end Go.Proofs.YtlimfofjhedikaaDoor.Asc
