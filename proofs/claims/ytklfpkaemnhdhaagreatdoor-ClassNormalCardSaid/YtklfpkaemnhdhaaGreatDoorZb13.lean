/- Merged texts: QvaMine2 AccPar AccPre AccMat LisMine AccFmt QvaLaid AccLaws KeyMem SelRef2. -/
import Derived.Test.YtklfpkaemnhdhaaGreatDoorZb03
import Derived.Test.YtklfpkaemnhdhaaGreatDoorZb06
import Derived.Test.YtklfpkaemnhdhaaGreatDoorZb07
import Derived.Test.YtklfpkaemnhdhaaGreatDoorZb08
import Derived.Test.YtklfpkaemnhdhaaGreatDoorZb09
import Derived.Test.YtklfpkaemnhdhaaGreatDoorZb10
import Derived.Test.YtklfpkaemnhdhaaGreatDoorZb11
import Derived.Test.YtklfpkaemnhdhaaGreatDoorZb12
import Derived.LaidMore
import Derived.Lib.LaidTab
set_option linter.unusedVariables false
set_option linter.unusedSimpArgs false
set_option maxRecDepth 100000
namespace Go.Proofs.YtklfpkaemnhdhaaGreatDoor.Asc
section
open Go.RowKit
def FfRel (A B C : Nat) (t d i : Value) : Prop :=
  (i = .int .i64 0 ∧ t = .int .i64 (100 * A + 10 * B + C) ∧ d = .string ⟨#[]⟩) ∨
  (i = .int .i64 1 ∧ t = .int .i64 (10 * B + C) ∧ d = .string ⟨#[digC A]⟩) ∨
  (i = .int .i64 2 ∧ t = .int .i64 C ∧ d = .string ⟨#[digC A, digC B]⟩ ∧ 0 < 10 * B + C) ∨
  (i = .int .i64 3 ∧ t = .int .i64 0 ∧ d = .string ⟨#[digC A, digC B, digC C]⟩ ∧ 0 < C)
def ffS (A B C : Nat) : List UInt8 := if C = 0 then (if B = 0 then [digC A] else [digC A, digC B]) else [digC A, digC B, digC C]
theorem formatFraction_any (A B C : Nat) (w : World) (hA : A < 10) (hB : B < 10) (hC : C < 10) (hp : 0 < 100 * A + 10 * B + C) (hW : Wts w) :
    Calls Tryz.prog 146 #[.int .i64 (100 * A + 10 * B + C)] w fun e w' => e = .returned (.string (bs (ffS A B C))) ∧ Below w.heap.size w w' := by
  have HT := box hW
  clear hW
  go_enter Tryz.func146, Tryz.ntmps146
  go_wp2
  go_loopw [0, 3, 4] (fun t d i wr => FfRel A B C t d i ∧ Below w.heap.size w wr) (fun _ _ i _ => 3 - (intOf i).toNat)
  case atStart => exact ⟨.inl ⟨rfl, rfl, rfl⟩, Below.refl _ _⟩
  case round =>
    obtain ⟨hr, hb⟩ := hrel
    have HB := box hb
    obtain ⟨hw0, hw1, hw2, _⟩ := HT.out.below hb
    clear hb
    rcases hr with ⟨rfl, rfl, rfl⟩ | ⟨rfl, rfl, rfl⟩ | ⟨rfl, rfl, rfl, hg⟩ | ⟨rfl, rfl, rfl, hg⟩
    · clear hw1 hw2
      have ad : ∀ w, (Op.stringOp .add ⟨#[]⟩ ⟨#[digC A]⟩).run Tryz.prog w = .ok (.string (⟨#[]⟩ ++ ⟨#[digC A]⟩)) w := fun w => run_string_add_sum w _ _ (by show 0 + 1 ≤ 9223372036854775807; omega)
      have ea : ((⟨#[]⟩ : ByteArray) ++ ⟨#[digC A]⟩) = ⟨#[digC A]⟩ := rfl
      go_wp2_with fail
      refine (Dec8_is (x := ⟨#[digC A]⟩) ⟨by omega, by omega⟩ (box (by rw [show ((100 * (A : Int) + 10 * (B : Int) + (C : Int)) / 100) = (A : Int) from by omega, dec_dig A hA]; rfl))).mono ?_; rintro e w1 ⟨rfl, hb1⟩
      have B1 := box (HB.out.trans (hb1.mono HB.out.size))
      obtain ⟨hv0, hv1, hv2, _⟩ := HT.out.below B1.out
      clear hb1
      go_wp2
      go_roundw
      case rel => exact ⟨.inr (.inl ⟨rfl, by go_num, rfl⟩), B1.out⟩
      case measure => simp [intOf]
    · by_cases h : 10 * B + C = 0
      · have e : ffS A B C = [digC A] := by unfold ffS; rw [if_pos (by omega), if_pos (by omega)]
        have E := box e
        clear e
        go_wp2
        go_ret
        exact ⟨by rw [E.out]; rfl, HB.out⟩
      · have hq : (0 : Int) < 10 * B + C := by omega
        clear hw0 hw2
        have ad : ∀ w, (Op.stringOp .add ⟨#[digC A]⟩ ⟨#[digC B]⟩).run Tryz.prog w = .ok (.string (⟨#[digC A]⟩ ++ ⟨#[digC B]⟩)) w := fun w => run_string_add_sum w _ _ (by show 1 + 1 ≤ 9223372036854775807; omega)
        have ea : ((⟨#[digC A]⟩ : ByteArray) ++ ⟨#[digC B]⟩) = ⟨#[digC A, digC B]⟩ := rfl
        go_wp2_with fail
        refine (Dec8_is (x := ⟨#[digC B]⟩) ⟨by omega, by omega⟩ (box (by rw [show ((10 * (B : Int) + (C : Int)) / 10) = (B : Int) from by omega, dec_dig B hB]; rfl))).mono ?_; rintro e w1 ⟨rfl, hb1⟩
        have B1 := box (HB.out.trans (hb1.mono HB.out.size))
        obtain ⟨hv0, hv1, hv2, _⟩ := HT.out.below B1.out
        clear hb1
        go_wp2
        go_roundw
        case rel => exact ⟨.inr (.inr (.inl ⟨rfl, by go_num, rfl, by omega⟩)), B1.out⟩
        case measure => simp [intOf]
    · by_cases h : C = 0
      · have e : ffS A B C = [digC A, digC B] := by unfold ffS; rw [if_pos h, if_neg (by omega)]
        have E := box e
        clear e
        go_wp2
        go_ret
        exact ⟨by rw [E.out]; rfl, HB.out⟩
      · have hq : (0 : Int) < C := by omega
        clear hw0 hw1
        have ad : ∀ w, (Op.stringOp .add ⟨#[digC A, digC B]⟩ ⟨#[digC C]⟩).run Tryz.prog w = .ok (.string (⟨#[digC A, digC B]⟩ ++ ⟨#[digC C]⟩)) w := fun w => run_string_add_sum w _ _ (by show 2 + 1 ≤ 9223372036854775807; omega)
        have ea : ((⟨#[digC A, digC B]⟩ : ByteArray) ++ ⟨#[digC C]⟩) = ⟨#[digC A, digC B, digC C]⟩ := rfl
        go_wp2_with fail
        refine (Dec8_is (x := ⟨#[digC C]⟩) ⟨by omega, by omega⟩ (box (by first | rw [dec_dig C hC]; rfl | (rw [show ((C : Int) / 1) = (C : Int) from by omega, dec_dig C hC]; rfl)))).mono ?_; rintro e w1 ⟨rfl, hb1⟩
        have B1 := box (HB.out.trans (hb1.mono HB.out.size))
        obtain ⟨hv0, hv1, hv2, _⟩ := HT.out.below B1.out
        clear hb1
        go_wp2
        go_roundw
        case rel => exact ⟨.inr (.inr (.inr ⟨rfl, by go_num, rfl, by omega⟩)), B1.out⟩
        case measure => simp [intOf]
    · have e : ffS A B C = [digC A, digC B, digC C] := by unfold ffS; rw [if_neg (by omega)]
      have E := box e
      clear e
      go_wp2
      go_ret
      exact ⟨by rw [E.out]; rfl, HB.out⟩
theorem ff_fmt (A B C : Nat) (hA : A < 10) (hB : B < 10) (hC : C < 10) (hp : 0 < 100 * A + 10 * B + C) : fmtQ (100 * A + 10 * B + C) = 48 :: 46 :: ffS A B C := by
  have hn : (100 * (A : Int) + 10 * (B : Int) + (C : Int)).toNat = 100 * A + 10 * B + C := by omega
  have h3 : threeL (100 * A + 10 * B + C) = [digC A, digC B, digC C] := by
    unfold threeL
    rw [show (100 * A + 10 * B + C) / 100 % 10 = A from by omega, show (100 * A + 10 * B + C) / 10 % 10 = B from by omega, show (100 * A + 10 * B + C) % 10 = C from by omega]
  unfold fmtQ
  rw [if_neg (by omega), if_neg (by omega), if_neg (by omega), hn, h3, strip_three]
  unfold ffS
  by_cases hc : C = 0
  · rw [if_pos ((digC_zero C hC).2 hc), if_pos hc]
    by_cases hb : B = 0
    · rw [if_pos ((digC_zero B hB).2 hb), if_pos hb, if_neg (fun q => by have := (digC_zero A hA).1 q; omega)]
    · rw [if_neg (fun q => hb ((digC_zero B hB).1 q)), if_neg hb]
  · rw [if_neg (fun q => hc ((digC_zero C hC).1 q)), if_neg hc]
theorem mFormat8_in (A B C : Nat) (w : World) (hA : A < 10) (hB : B < 10) (hC : C < 10) (hp : 0 < 100 * A + 10 * B + C) (hW : Wts w) :
    Calls Tryz.prog 119 #[.int .i64 (100 * A + 10 * B + C)] w fun e w' => e = .returned (.string (bs (fmtQ (100 * A + 10 * B + C)))) ∧ Below w.heap.size w w' := by
  have HF := box (ff_fmt A B C hA hB hC hp)
  have HT := box hW
  have hm : ((100 * (A : Int) + 10 * B + C) % 1000 == 0) = false := by rw [beq_eq_false_iff_ne]; omega
  have i1 : ¬ (100 * (A : Int) + 10 * B + C) < 0 := by omega
  have i2 : ¬ 1000 < (100 * (A : Int) + 10 * B + C) := by omega
  have hz : (bs (ffS A B C)).size ≤ 3 := by
    rw [bs_size]; unfold ffS
    split
    · split <;> simp
    · simp
  have ad : ∀ w, (Op.stringOp .add ⟨#[48, 46]⟩ (bs (ffS A B C))).run Tryz.prog w = .ok (.string (⟨#[48, 46]⟩ ++ bs (ffS A B C))) w := fun w => run_string_add_sum w _ _ (by show 2 + (bs (ffS A B C)).size ≤ 9223372036854775807; omega)
  clear hz hW
  go_enter Tryz.func119, Tryz.ntmps119
  go_wp2_with fail
  refine (formatFraction_any A B C _ hA hB hC hp HT.out).mono ?_; rintro e w1 ⟨rfl, hb⟩
  go_wp2
  go_ret
  exact ⟨by rw [HF.out]; rfl, hb⟩
theorem mFormat8_any (q : Int) (w : World) (h : InI64 q) (hW : Wts w) :
    Calls Tryz.prog 119 #[.int .i64 q] w fun e w' => e = .returned (.string (bs (fmtQ q))) ∧ Below w.heap.size w w' := by
  by_cases h1 : q < 0
  · have HE : Box (fmtQ q = []) := box (qv_none q (.inl h1))
    go_enter Tryz.func119, Tryz.ntmps119
    go_wp2
    go_ret
    exact ⟨by rw [HE.out]; rfl, Below.refl _ _⟩
  · by_cases h2 : 1000 < q
    · have HE : Box (fmtQ q = []) := box (qv_none q (.inr h2))
      go_enter Tryz.func119, Tryz.ntmps119
      go_wp2
      go_ret
      exact ⟨by rw [HE.out]; rfl, Below.refl _ _⟩
    · by_cases h3 : q = 0
      · subst h3
        have HE : Box (bs (fmtQ 0) = ⟨#[48]⟩) := box (by decide)
        have HD : Box (bs (decL 0) = ⟨#[48]⟩) := box (by decide +kernel)
        clear hW
        go_enter Tryz.func119, Tryz.ntmps119
        go_wp2_with fail
        refine (Dec8_is ⟨by omega, by omega⟩ HD).mono ?_; rintro e w1 ⟨rfl, hb⟩
        go_wp2
        go_ret
        exact ⟨by rw [HE.out]; rfl, hb⟩
      · by_cases h4 : q = 1000
        · subst h4
          have HE : Box (bs (fmtQ 1000) = ⟨#[49]⟩) := box (by decide)
          have HD : Box (bs (decL 1) = ⟨#[49]⟩) := box (by decide +kernel)
          clear hW
          go_enter Tryz.func119, Tryz.ntmps119
          go_wp2_with fail
          refine (Dec8_is ⟨by omega, by omega⟩ HD).mono ?_; rintro e w1 ⟨rfl, hb⟩
          go_wp2
          go_ret
          exact ⟨by rw [HE.out]; rfl, hb⟩
        · have e : q = 100 * ((q.toNat / 100 : Nat) : Int) + 10 * ((q.toNat / 10 % 10 : Nat) : Int) + ((q.toNat % 10 : Nat) : Int) := by omega
          rw [e]
          exact mFormat8_in _ _ _ w (by omega) (by omega) (by omega) (by omega) hW
end
section
open Go.RowKit
theorem cutQ1_any (n u : ByteArray) (w : World) :
    Calls Tryz.prog 140 #[.agg #[.string n, .string u]] w fun e w' => e = .returned (.bool (isQ (n, u))) ∧ Below w.heap.size w w' := by
  have hq := isQ_eq n u
  obtain ⟨z, hz⟩ : ∃ z, isQ (n, u) = z := ⟨_, rfl⟩
  rw [hz] at hq ⊢
  clear hz
  go_enter Tryz.func140, Tryz.ntmps140
  go_wp2
  go_ret
  exact ⟨rfl, below_new w _⟩
theorem cutQ1_is {n u : ByteArray} {z : Bool} {w : World} (h : Box (isQ (n, u) = z)) :
    Calls Tryz.prog 140 #[.agg #[.string n, .string u]] w fun e w' => e = .returned (.bool z) ∧ Below w.heap.size w w' :=
  (cutQ1_any n u w).mono fun e w' ⟨h1, h2⟩ => ⟨by rw [h1, h.out], h2⟩
/-- the place of the first q, -1 if there is none -/
def idxQ (K : List F) : Int := if atQ K < K.length then (atQ K : Int) else -1
theorem idxQ_hit {K : List F} {j : Nat} (hj : j < K.length) (h : atQ K = j) : idxQ K = (j : Int) := by unfold idxQ; rw [h, if_pos hj]
theorem idxQ_no {K : List F} (h : atQ K = K.length) : idxQ K = -1 := by unfold idxQ; rw [h, if_neg (by omega)]
def AtMRel (K : List F) (W : World) (i : Value) (wr : World) : Prop := ∃ j : Nat, i = .int .i64 j ∧ j ≤ K.length ∧ Box (∀ i (hi : i < K.length), i < j → isQ K[i] = false) ∧ Below W.heap.size W wr
set_option maxHeartbeats 400000 in
theorem idxQ_any (a : Option Addr) (cap : Nat) (K : List F) (w : World) (hl : K.length ≤ 65536) (hF : Box (Fs w a K)) :
    Calls Tryz.prog 139 #[.slice a K.length cap, .func (.func 140) #[] #[]] w fun e w' => e = .returned (.int .i64 (idxQ K)) ∧ Below w.heap.size w w' := by
  go_enter Tryz.func139, Tryz.ntmps139
  go_wp2
  go_loopw [8] (fun i wr => AtMRel K w i wr) (fun i _ => K.length - (intOf i).toNat)
  case atStart => exact ⟨0, rfl, Nat.zero_le _, box (fun i hi h => absurd h (by omega)), Below.refl _ _⟩
  case round =>
    obtain ⟨k, rfl, hk, HNO, hbel⟩ := hrel
    by_cases hlt : k < K.length
    · obtain ⟨g, off, rfl, c0, c1⟩ := (hF.out.below hbel) k hlt
      obtain ⟨⟨n, u⟩, hnu⟩ : ∃ p, K[k] = p := ⟨_, rfl⟩
      rw [hnu] at c0 c1
      have BL := box hbel
      clear hbel
      cases hq : isQ (n, u) with
      | true =>
        have HQ := box hq
        have HV : Box (idxQ K = (k : Int)) := box (idxQ_hit hlt (atQ_is (fun i hi hik => HNO.out i hi hik) (.inr ⟨hlt, by rw [hnu]; exact hq⟩)))
        clear hq hnu
        go_wp2_with fail
        refine (cutQ1_is HQ).mono ?_; rintro e w1 ⟨rfl, hb1⟩
        have B1 := box (BL.out.trans (hb1.mono BL.out.size))
        clear hb1 c0 c1
        go_wp2
        go_ret
        exact ⟨by rw [HV.out]; rfl, B1.out⟩
      | false =>
        have HQ := box hq
        have HN2 : Box (∀ i (hi : i < K.length), i < k + 1 → isQ K[i] = false) := box (fun i hi hij => by
          by_cases e : i = k
          · subst e; rw [hnu]; exact hq
          · exact HNO.out i hi (by omega))
        clear hq hnu
        go_wp2_with fail
        refine (cutQ1_is HQ).mono ?_; rintro e w1 ⟨rfl, hb1⟩
        have B1 := box (BL.out.trans (hb1.mono BL.out.size))
        clear hb1 c0 c1
        go_wp2
        go_roundw
        case rel => exact ⟨k + 1, by go_num, hlt, HN2, B1.out⟩
        case measure => simp [intOf]; omega
    · have HV : Box (idxQ K = -1) := box (idxQ_no (atQ_is (k := K.length) (fun i hi hik => HNO.out i hi (by omega)) (.inl rfl)))
      go_wp2
      go_ret
      exact ⟨by rw [HV.out]; rfl, hbel⟩
theorem idxQ_is {a : Option Addr} {cap : Nat} {K : List F} {i : Int} {w : World} (hl : K.length ≤ 65536) (hF : Box (Fs w a K)) (h : Box (idxQ K = i)) :
    Calls Tryz.prog 139 #[.slice a K.length cap, .func (.func 140) #[] #[]] w fun e w' => e = .returned (.int .i64 i) ∧ Below w.heap.size w w' :=
  (idxQ_any a cap K w hl hF).mono fun e w' ⟨h1, h2⟩ => ⟨by rw [h1, h.out], h2⟩
theorem mQv13_is {s : ByteArray} {q : Int} {b : Bool} {w : World} (hs : s.size ≤ 9223372036854775807) (hW : Wts w) (h : Box (qvT (qvL s.data.toList) = .tuple #[.int .i64 q, .bool b])) :
    Calls Tryz.prog 141 #[.string s] w fun e w' => e = .returned (.tuple #[.int .i64 q, .bool b]) ∧ Below w.heap.size w w' :=
  (mParse8_any s w hs hW).mono fun e w' ⟨h1, h2⟩ => ⟨by rw [h1, h.out], h2⟩
theorem cutQ_is {a : Option Addr} {cap : Nat} {K : List F} {j : Nat} {q : Int} {b : Bool} {w : World} (hl : K.length ≤ 20000) (hc : K.length ≤ cap) (hz : Box (∀ i (hi : i < K.length), K[i].1.size ≤ 20000 ∧ K[i].2.size ≤ 20000)) (hF : Fs w a K) (hW : Wts w) (hj : Box (atQ K = j)) (h : Box (qvT (qualP K) = .tuple #[.int .i64 q, .bool b])) :
    Calls Tryz.prog 117 #[.slice a K.length cap] w fun e w' => e = .returned (.tuple #[.slice a j cap, .int .i64 q, .bool b]) ∧ Below w.heap.size w w' := by
  have F0 := box hF
  have HT := box hW
  have hl6 : K.length ≤ 65536 := by omega
  have hjl : j ≤ K.length := by rw [← hj.out]; exact atQ_le K
  clear hF hW
  by_cases hlt : j < K.length
  · have HI : Box (idxQ K = (j : Int)) := box (idxQ_hit hlt hj.out)
    obtain ⟨⟨n, u⟩, hnu⟩ : ∃ p, K[j] = p := ⟨_, rfl⟩
    have HQ : Box (qvT (qvL u.data.toList) = .tuple #[.int .i64 q, .bool b]) := box (by rw [← qual_at hj.out hlt (by rw [hnu])]; exact h.out)
    have huz : u.size ≤ 9223372036854775807 := by have := (hz.out j hlt).2; rw [hnu] at this; exact Nat.le_trans this (by omega)
    have hji : (j : Int) < (K.length : Int) := by omega
    have hj0 : (0 : Int) ≤ (j : Int) := by omega
    have hjn : ¬ (j : Int) < 0 := by omega
    have hjc : (j : Int) ≤ (cap : Int) := by omega
    go_enter Tryz.func117, Tryz.ntmps117
    go_wp2_with fail
    refine (idxQ_is hl6 F0 HI).mono ?_; rintro e w1 ⟨rfl, hb1⟩
    obtain ⟨g, off, rfl, c0, c1⟩ := (F0.out.below hb1) j hlt
    rw [hnu] at c0 c1
    have T1 := box (HT.out.below hb1)
    have B1 := box hb1
    clear hb1 hnu
    go_wp2_with fail
    refine (mQv13_is huz T1.out HQ).mono ?_; rintro e w2 ⟨rfl, hb2⟩
    have B2 := box (B1.out.trans (hb2.mono B1.out.size))
    clear hb2 c0 c1
    go_wp2
    go_ret3
    exact ⟨rfl, B2.out⟩
  · obtain rfl : j = K.length := by omega
    have HI : Box (idxQ K = -1) := box (idxQ_no hj.out)
    have hq : qualP K = some 1000 := qual_no hj.out
    have h := h.out
    rw [hq] at h
    obtain ⟨rfl, rfl⟩ : 1000 = q ∧ true = b := by
      unfold qvT at h
      injection h with h; injection h with h
      simp at h
      exact ⟨h.1, h.2⟩
    clear h hq
    go_enter Tryz.func117, Tryz.ntmps117
    go_wp2_with fail
    refine (idxQ_is hl6 F0 HI).mono ?_; rintro e w1 ⟨rfl, hb1⟩
    go_wp2
    go_ret3
    exact ⟨rfl, hb1⟩
/-- the text of a range -/
def rtO (k : Int) (v : List UInt8) (K : List F) : Option ByteArray :=
  if k = 1 then (rangeL v).map fun m => fmtPB (m.1 ++ (⟨#[47]⟩ : ByteArray) ++ m.2.1) K
  else if ((if k = 2 then rangeT v else tokL v) && decide (K.length = 0)) = true then some (bs (canL k v)) else none
def RtIs (o : Option ByteArray) (e : Ending) : Prop := ∃ x b, e = .returned (.tuple #[.string x, .bool b]) ∧ o.isSome = b ∧ ∀ p, o = some p → p = x
theorem rt_of {o : Option ByteArray} {x : ByteArray} {b : Bool} (h1 : o.isSome = b) (h2 : ∀ p, o = some p → p = x) : RtIs o (.returned (.tuple #[.string x, .bool b])) := ⟨x, b, rfl, h1, h2⟩
theorem rt_acc_facts {v : List UInt8} {a b : ByteArray} {M K : List F} {ok : Bool} {y : ByteArray} (hM : ofM (rangeL v) = (a, b, M)) (hok : (rangeL v).isSome = ok) (hy : fmtMB (a, b, K) = y) : (rtO 1 v K).isSome = ok ∧ ∀ p, rtO 1 v K = some p → p = y := by
  unfold rtO
  rw [if_pos rfl, ← hok]
  cases hr : rangeL v with
  | none => exact ⟨rfl, fun p hp => by cases hp⟩
  | some m =>
    rw [hr] at hM
    have hm : m = (a, b, M) := hM
    subst hm
    refine ⟨rfl, fun p hp => ?_⟩
    simp only [Option.map_some, Option.some.injEq] at hp
    rw [← hp, ← hy]; rfl
theorem rt_oth_facts {k : Int} {v : List UInt8} {K : List F} {t : Bool} {y : ByteArray} (hk : k ≠ 1) (ht : (if k = 2 then rangeT v else tokL v) = t) (hK : K.length = 0) (hy : bs (canL k v) = y) : (rtO k v K).isSome = t ∧ ∀ p, rtO k v K = some p → p = y := by
  unfold rtO
  rw [if_neg hk, ht, decide_eq_true hK, Bool.and_true]
  cases t with
  | true => exact ⟨rfl, fun p hp => by cases hp; rw [← hy]⟩
  | false => exact ⟨rfl, fun p hp => by cases hp⟩
theorem rt_long {k : Int} {v : List UInt8} {K : List F} (hk : k ≠ 1) (hK : K.length ≠ 0) : rtO k v K = none := by
  unfold rtO
  rw [if_neg hk, decide_eq_false hK, Bool.and_false]; rfl
theorem mem_rt {k : Int} {s v : List UInt8} {L : List F} {q : Int} (h : parL s = some (v, L)) (hq : qualP L = some q) : memP k s = (rtO k v (L.take (atQ L))).map fun x => (x, q) := by
  have hl : (L.take (atQ L)).length = atQ L := by rw [List.length_take]; have := atQ_le L; omega
  by_cases hk : k = 1
  · subst hk
    rw [mem_acc h hq]
    unfold rtO
    rw [if_pos rfl]
    cases rangeL v with
    | none => rfl
    | some m => rfl
  · rw [mem_oth hk h hq]
    unfold rtO
    rw [if_neg hk, hl]
    cases ((if k = 2 then rangeT v else tokL v) && decide (atQ L = 0)) with
    | true => rfl
    | false => rfl
theorem mFmt13_is {a b : ByteArray} {p : Option Addr} {n cap : Nat} {L : List F} {x : ByteArray} {w : World} (ha : a.size ≤ 30000) (hb : b.size ≤ 30000) (hn : Box (L.length = n)) (hl : Box (L.length ≤ 65536)) (hz : Box (∀ i (hi : i < L.length), L[i].1.size ≤ 65536 ∧ L[i].2.size ≤ 65536)) (hF : Fs w p L) (h : Box (fmtMB (a, b, L) = x)) :
    Calls Tryz.prog 167 #[.agg #[.string a, .string b, .slice p n cap]] w fun e w' => e = .returned (.string x) ∧ Below w.heap.size w w' := by
  have := mFmt10_any a b p cap L w ha hb hl.out hz (box hF)
  rw [hn.out, h.out] at this; exact this
theorem mrtx_is {x : ByteArray} {p : Option Addr} {n cap : Nat} {K : List F} {w : World} (hx : x.size ≤ 20000) (hn : Box (K.length = n)) (hl : Box (K.length ≤ 65536)) (hz : Box (∀ i (hi : i < K.length), K[i].1.size ≤ 65536 ∧ K[i].2.size ≤ 65536)) (hF : Fs w p K) :
    Calls Tryz.prog 142 #[.string x, .slice p n cap] w fun e w' => RtIs (rtO 1 x.data.toList K) e ∧ Below w.heap.size w w' := by
  obtain ⟨⟨a, b, M⟩, hM⟩ : ∃ m, ofM (rangeL x.data.toList) = m := ⟨_, rfl⟩
  obtain ⟨ok, hok⟩ : ∃ ok, (rangeL x.data.toList).isSome = ok := ⟨_, rfl⟩
  obtain ⟨y, hy⟩ : ∃ y, fmtMB (a, b, K) = y := ⟨_, rfl⟩
  have F0 := box hF
  have hlen := range_len13 hM
  have HM := box (And.intro hM hok)
  have HY := box hy
  have HR := box (rt_acc_facts hM hok hy)
  have ha : a.size ≤ 30000 := by omega
  have hb : b.size ≤ 30000 := by omega
  have hx6 : x.size ≤ 65000 := by omega
  clear hM hok hy hlen hF
  go_enter Tryz.func142, Tryz.ntmps142
  go_wp2_with fail
  refine (mRange_is hx6 HM).mono ?_; rintro e w2 ⟨p2, c2, rfl, hO2, hb2⟩
  have hnw := below_new w2 (.cells #[.string a, .string b, .slice p n cap] 77)
  have B2 := box (hb2.trans (hnw.mono hb2.size))
  have T4 : Box (Fs (w2.alloc (.cells #[.string a, .string b, .slice p n cap] 77)) p K) := box ((F0.out.below hb2).below hnw)
  clear hO2 hb2 hnw
  go_wp2_with fail
  refine (mFmt13_is ha hb hn hl hz T4.out HY).mono ?_; rintro e w3 ⟨rfl, hb3⟩
  have B3 := box (B2.out.trans (hb3.mono B2.out.size))
  clear hb3
  go_wp2
  go_ret2
  exact ⟨rt_of HR.out.1 HR.out.2, B3.out⟩
theorem mCan13_is {k : Int} {s x : ByteArray} {w : World} (hk : InI64 k) (hs : s.size ≤ 20000) (h : Box (bs (canL k s.data.toList) = x)) :
    Calls Tryz.prog 143 #[.int .i64 k, .string s] w fun e w' => e = .returned (.string x) ∧ Below w.heap.size w w' :=
  mCan0_is hk (by omega) h
theorem mRng13_is {s : ByteArray} {b : Bool} {w : World} (hs : s.size ≤ 20000) (h : Box (rangeT s.data.toList = b)) :
    Calls Tryz.prog 144 #[.string s] w fun e w' => e = .returned (.bool b) ∧ Below w.heap.size w w' :=
  (mRangeT_any s w (by omega)).mono fun e w' ⟨h1, h2⟩ => ⟨by rw [h1, h.out], h2⟩
set_option maxHeartbeats 1000000 in
theorem mrt_is {k : Int} {x : ByteArray} {p : Option Addr} {n cap : Nat} {K : List F} {w : World} (hk : InI64 k) (hx : x.size ≤ 20000) (hn : Box (K.length = n)) (hl : Box (K.length ≤ 65536)) (hz : Box (∀ i (hi : i < K.length), K[i].1.size ≤ 65536 ∧ K[i].2.size ≤ 65536)) (hF : Fs w p K) :
    Calls Tryz.prog 118 #[.int .i64 k, .string x, .slice p n cap] w fun e w' => RtIs (rtO k x.data.toList K) e ∧ Below w.heap.size w w' := by
  have F0 := box hF
  have hxm : x.size ≤ maxLen := by unfold maxLen; omega
  have HXM := box hxm
  clear hF hxm
  by_cases h1 : k = 1
  · subst h1
    go_enter Tryz.func118, Tryz.ntmps118
    go_wp2_with fail
    refine (mrtx_is hx hn hl hz F0.out).mono ?_; rintro e w1 ⟨⟨y, b, rfl, hb, hp⟩, hb1⟩
    have HR := box (And.intro hb hp)
    clear hb hp
    go_wp2
    go_ret2
    exact ⟨rt_of HR.out.1 HR.out.2, hb1⟩
  · have e1 : (k == 1) = false := by rw [beq_eq_false_iff_ne]; exact h1
    by_cases h0 : n = 0
    · obtain ⟨y, hy⟩ : ∃ y, bs (canL k x.data.toList) = y := ⟨_, rfl⟩
      have HY := box hy
      have hK0 : K.length = 0 := by rw [hn.out]; exact h0
      by_cases h2 : k = 2
      · subst h2
        obtain ⟨t, ht⟩ : ∃ t, rangeT x.data.toList = t := ⟨_, rfl⟩
        have HT := box ht
        have HR := box (rt_oth_facts h1 (t := t) (by rw [if_pos rfl]; exact ht) hK0 hy)
        subst h0
        clear hy ht hK0 h1 e1
        go_enter Tryz.func118, Tryz.ntmps118
        go_wp2_with fail
        refine (mCan13_is hk hx HY).mono ?_; rintro e w1 ⟨rfl, hb1⟩
        have B1 := box hb1
        clear hb1
        go_wp2_with fail
        refine (mRng13_is hx HT).mono ?_; rintro e w2 ⟨rfl, hb2⟩
        have B2 := box (B1.out.trans (hb2.mono B1.out.size))
        clear hb2
        go_wp2
        go_ret2
        exact ⟨rt_of HR.out.1 HR.out.2, B2.out⟩
      · have e2 : (k == 2) = false := by rw [beq_eq_false_iff_ne]; exact h2
        obtain ⟨t, ht⟩ : ∃ t, tokL x.data.toList = t := ⟨_, rfl⟩
        have HT := box ht
        have HR := box (rt_oth_facts h1 (t := t) (by rw [if_neg h2]; exact ht) hK0 hy)
        subst h0
        clear hy ht hK0 h1 h2
        go_enter Tryz.func118, Tryz.ntmps118
        go_wp2_with fail
        refine (mCan13_is hk hx HY).mono ?_; rintro e w1 ⟨rfl, hb1⟩
        have B1 := box hb1
        clear hb1
        go_wp2_with fail
        refine (aToken_is HXM.out HT).mono ?_; rintro e w2 ⟨rfl, rfl⟩
        go_wp2
        go_ret2
        exact ⟨rt_of HR.out.1 HR.out.2, B1.out⟩
    · have hn0 : (0 : Int) < (n : Int) := by omega
      have HV : Box (rtO k x.data.toList K = none) := box (rt_long h1 (by rw [hn.out]; exact h0))
      clear h0 h1
      go_enter Tryz.func118, Tryz.ntmps118
      go_wp2
      go_ret2
      exact ⟨rt_of (by rw [HV.out]; rfl) (fun p hp => by rw [HV.out] at hp; cases hp), Below.refl _ _⟩
set_option maxHeartbeats 2000000 in
theorem mpp_any (k : Int) (s : ByteArray) (w : World) (hk : InI64 k) (hs : s.size ≤ 20000) (hW : Wts w) :
    Calls Tryz.prog 78 #[.int .i64 k, .string s] w fun e w' => MbrIs (memP k s.data.toList) e ∧ Below w.heap.size w w' := by
  obtain ⟨x, hx⟩ : ∃ x, parA s.data.toList = x := ⟨_, rfl⟩
  obtain ⟨K, hK⟩ : ∃ K, parB s.data.toList = K := ⟨_, rfl⟩
  have HT := box hW
  have hs6 : s.size ≤ 65000 := by omega
  have hxx : x.size ≤ 20000 := by have := parA_size s; rw [hx] at this; omega
  clear hW
  cases ho : parO s.data.toList with
  | false =>
    have HP := box (And.intro hx (And.intro hK ho))
    have HV : Box (memP k s.data.toList = none) := box (mem_none (par_off ho))
    clear hx hK ho
    go_enter Tryz.func78, Tryz.ntmps78
    go_wp2_with fail
    refine (mParO_is hs6 HP).mono ?_; rintro e w1 ⟨a1, c1, rfl, hO1, hb1⟩
    have hC1 := box ((C2.new (.string ⟨#[]⟩) (.int .i64 0) w 55).next hb1)
    have B1 := box ((below_new w (.cells #[.string ⟨#[]⟩, .int .i64 0] 55)).trans (hb1.mono (below_new w _).size))
    clear hO1 hb1
    obtain ⟨⟨r0, r1⟩, ⟨f0, f1⟩⟩ := hC1.out
    go_wp2
    (try simp only [Exit.inBlock, Exit.then])
    refine bodyPost_ret (v := .tuple #[.agg #[.string ⟨#[]⟩, .int .i64 0], .bool false]) (by rw [results_cell_tmp rfl]; go_simp) rfl ?_
    exact ⟨mbr_no HV, below2 B1.out (Nat.le_refl _) _ _⟩
  | true =>
    have HP := box (And.intro hx (And.intro hK ho))
    have HPL := box (par_of HP.out)
    have hKlen : K.length ≤ 20000 := by have := (par_facts HPL.out).2.2.1; have hz : s.data.toList.length = s.size := by simp
                                        omega
    have hKz : Box (∀ i (hi : i < K.length), K[i].1.size ≤ 20000 ∧ K[i].2.size ≤ 20000) := box (fun i hi => by
      have h1 := (par_facts HPL.out).2.1
      have h2 := szF_at hi
      have hz : s.data.toList.length = s.size := by simp
      omega)
    obtain ⟨j, hj⟩ : ∃ j, atQ K = j := ⟨_, rfl⟩
    have HJ := box hj
    have hjl : j ≤ K.length := by rw [← hj]; exact atQ_le K
    have hTL : Box ((K.take j).length = j) := box (by rw [List.length_take]; omega)
    have lK : Box ((K.take j).length ≤ 65536) := box (by rw [List.length_take]; omega)
    have zK : Box (∀ i (hi : i < (K.take j).length), (K.take j)[i].1.size ≤ 65536 ∧ (K.take j)[i].2.size ≤ 65536) := box (fun i hi => by
      have hi2 : i < K.length := by rw [List.length_take] at hi; omega
      have := hKz.out i hi2
      rw [List.getElem_take]; omega)
    clear hx hK ho hj hjl
    cases hq : qualP K with
    | none =>
      have HQ : Box (qvT (qualP K) = .tuple #[.int .i64 0, .bool false]) := box (by rw [hq]; rfl)
      have HV : Box (memP k s.data.toList = none) := box (mem_noq HPL.out hq)
      clear hq
      go_enter Tryz.func78, Tryz.ntmps78
      go_wp2_with fail
      refine (mParO_is hs6 HP).mono ?_; rintro e w1 ⟨a1, c1, rfl, hO1, hb1⟩
      obtain ⟨p9, c9, hv9, hFF, hcc⟩ := hO1.fs
      cases hv9
      have hC1 := box ((C2.new (.string ⟨#[]⟩) (.int .i64 0) w 55).next hb1)
      have B1 := box ((below_new w (.cells #[.string ⟨#[]⟩, .int .i64 0] 55)).trans (hb1.mono (below_new w _).size))
      have F1 := box hFF
      have T1 := box (HT.out.below B1.out)
      clear hO1 hb1 hFF
      go_wp2_with fail
      refine (cutQ_is hKlen hcc hKz F1.out T1.out HJ HQ).mono ?_; rintro e w2 ⟨rfl, hb2⟩
      have B2 := box (B1.out.trans (hb2.mono B1.out.size))
      have hC2 := box (hC1.out.next hb2)
      clear hb2
      obtain ⟨⟨r0, r1⟩, ⟨f0, f1⟩⟩ := hC2.out
      go_wp2
      (try simp only [Exit.inBlock, Exit.then])
      refine bodyPost_ret (v := .tuple #[.agg #[.string ⟨#[]⟩, .int .i64 0], .bool false]) (by rw [results_cell_tmp rfl]; go_simp) rfl ?_
      exact ⟨mbr_no HV, below2 B2.out (Nat.le_refl _) _ _⟩
    | some q =>
      have HQ : Box (qvT (qualP K) = .tuple #[.int .i64 q, .bool true]) := box (by rw [hq]; rfl)
      have HV : Box (memP k s.data.toList = (rtO k x.data.toList (K.take j)).map fun y => (y, q)) := box (by rw [← HJ.out]; exact mem_rt HPL.out hq)
      clear hq
      go_enter Tryz.func78, Tryz.ntmps78
      go_wp2_with fail
      refine (mParO_is hs6 HP).mono ?_; rintro e w1 ⟨a1, c1, rfl, hO1, hb1⟩
      obtain ⟨p9, c9, hv9, hFF, hcc⟩ := hO1.fs
      cases hv9
      have hC1 := box ((C2.new (.string ⟨#[]⟩) (.int .i64 0) w 55).next hb1)
      have B1 := box ((below_new w (.cells #[.string ⟨#[]⟩, .int .i64 0] 55)).trans (hb1.mono (below_new w _).size))
      have F1 := box hFF
      have T1 := box (HT.out.below B1.out)
      clear hO1 hb1 hFF
      go_wp2_with fail
      refine (cutQ_is hKlen hcc hKz F1.out T1.out HJ HQ).mono ?_; rintro e w2 ⟨rfl, hb2⟩
      have B2 := box (B1.out.trans (hb2.mono B1.out.size))
      have hC2 := box (hC1.out.next hb2)
      have F2 := box (fs_take (n := j) (F1.out.below hb2))
      clear hb2
      go_wp2_with fail
      refine (mrt_is hk hxx hTL lK zK F2.out).mono ?_; rintro e w3 ⟨⟨y, b, rfl, hb, hp⟩, hb3⟩
      have B3 := box (B2.out.trans (hb3.mono B2.out.size))
      have hC3 := box (hC2.out.next hb3)
      clear hb3
      obtain ⟨⟨r0, r1⟩, ⟨f0, f1⟩⟩ := hC3.out
      cases b with
      | false =>
        have HN : Box (memP k s.data.toList = none) := box (by
          rw [HV.out]
          cases hr : rtO k x.data.toList (K.take j) with
          | none => rfl
          | some m => rw [hr] at hb; cases hb)
        clear hb hp
        go_wp2
        (try simp only [Exit.inBlock, Exit.then])
        refine bodyPost_ret (v := .tuple #[.agg #[.string ⟨#[]⟩, .int .i64 0], .bool false]) (by rw [results_cell_tmp rfl]; go_simp) rfl ?_
        exact ⟨mbr_no HN, below2 B3.out (Nat.le_refl _) _ _⟩
      | true =>
        have HN : Box (memP k s.data.toList = some (y, q)) := box (by
          rw [HV.out]
          cases hr : rtO k x.data.toList (K.take j) with
          | none => rw [hr] at hb; cases hb
          | some m => rw [hp m hr]; rfl)
        clear hb hp
        go_wp2
        (try simp only [Exit.inBlock, Exit.then])
        refine bodyPost_ret (v := .tuple #[.agg #[.string y, .int .i64 q], .bool true]) (by rw [results_cell_tmp rfl]; go_simp) rfl ?_
        exact ⟨mbr_of (by rw [HN.out]; rfl) (fun p hp => by rw [HN.out] at hp; cases hp; rfl), below2 B3.out (Nat.le_refl _) _ _⟩
theorem mpp_is {k : Int} {s : ByteArray} {o : Option QP} {w : World} (hk : InI64 k) (hs : s.size ≤ 20000) (hW : Wts w) (h : Box (memP k s.data.toList = o)) :
    Calls Tryz.prog 78 #[.int .i64 k, .string s] w fun e w' => MbrIs o e ∧ Below w.heap.size w w' :=
  (mpp_any k s w hk hs hW).mono fun e w' ⟨h1, h2⟩ => ⟨by rw [h.out] at h1; exact h1, h2⟩
end
section
open Go.RowKit
set_option maxHeartbeats 2000000 in
theorem mPrefs0_any (k : Int) (a : Option Addr) (cap : Nat) (L : List F) (w : World) (hk : InI64 k) (S : Box (Sm L)) (hv6 : Box (∀ x ∈ getL (nameK k) L, x.size ≤ 65000)) (hmz : Box (∀ m ∈ allL (nameK k) L, m.length ≤ 20000)) (hF : Box (Fs w a L)) (hW : Wts w) :
    Calls Tryz.prog 42 #[.int .i64 k, .slice a L.length cap] w fun e w' => ∃ v, e = .returned (.tuple #[v, .bool (prefsO k L)]) ∧ OwnQ w' w.heap.size v (prefsV k L) ∧ Below w.heap.size w w' := by
  obtain ⟨nm, hnm⟩ : ∃ nm, nameK k = nm := ⟨_, rfl⟩
  have HN := box hnm
  have HT := box hW
  have hnz : nm.size ≤ 15 := by rw [← hnm]; exact name_size k
  have hm65 : Box (nm.size ≤ 65536) := box (by omega)
  have hl := S.out.1
  clear hW
  by_cases h0 : nm = ⟨#[]⟩
  · have HO : Box (prefsO k L = false) := box (by unfold prefsO; rw [hnm, decide_eq_false (by simp [h0]), Bool.false_and])
    have HV : Box (prefsV k L = []) := box (by unfold prefsV; rw [HO.out]; rfl)
    subst h0
    clear hnm
    go_enter Tryz.func42, Tryz.ntmps42
    go_wp2_with fail
    refine (mName0_is hk HN).mono ?_; rintro e w1 ⟨rfl, rfl⟩
    go_wp2
    go_ret2
    exact ⟨_, by rw [HO.out]; rfl, by rw [HV.out]; exact OwnQ.nil _ _, Below.refl _ _⟩
  · have e0 : (nm.toList == []) = false := by
      rw [toList_data, beq_eq_false_iff_ne]
      intro e; apply h0; rw [bs_of nm, e]; rfl
    have HNE : Box (decide (nameK k ≠ ⟨#[]⟩) = true) := box (decide_eq_true (by rw [hnm]; exact h0))
    rw [hnm] at hv6 hmz
    clear h0 hnm
    cases hh : L.any (nmd nm) with
    | false =>
      have HH := box hh
      have HO : Box (prefsO k L = false) := box (by unfold prefsO; rw [HN.out, hh, Bool.and_false])
      have HV : Box (prefsV k L = []) := box (by unfold prefsV; rw [HO.out]; rfl)
      clear hh
      go_enter Tryz.func42, Tryz.ntmps42
      go_wp2_with fail
      refine (mName0_is hk HN).mono ?_; rintro e w1 ⟨rfl, rfl⟩
      go_wp2_with fail
      refine (Has_any a cap L nm _ hl S hm65 hF).mono ?_; rintro e w1 ⟨rfl, hb1⟩; rw [HH.out]
      go_wp2
      go_ret2
      exact ⟨_, by rw [HO.out]; rfl, by rw [HV.out]; exact OwnQ.nil _ _, hb1⟩
    | true =>
      have HH := box hh
      have HO : Box (prefsO k L = true) := box (by unfold prefsO; rw [HNE.out, HN.out, hh]; rfl)
      obtain ⟨A, hA⟩ : ∃ A, allL nm L = A := ⟨_, rfl⟩
      have HV : Box (prefsV k L = A.filterMap (memP k)) := box (by unfold prefsV prefsL; rw [HO.out, HN.out, hA]; rfl)
      have HAB : Box (allB nm L = A.map bs) := box (by unfold allB; rw [hA])
      have hA64 : A.length ≤ 64 := by rw [← hA]; unfold allL; rw [List.length_take]; omega
      have HSZ : Box (∀ j (hj : j < A.length), A[j].length ≤ 20000) := box (fun j hj => by
        have hm : A[j] ∈ allL nm L := by rw [hA]; exact List.getElem_mem hj
        exact hmz.out _ hm)
      clear hh hA
      go_enter Tryz.func42, Tryz.ntmps42
      go_wp2_with fail
      refine (mName0_is hk HN).mono ?_; rintro e w1 ⟨rfl, rfl⟩
      go_wp2_with fail
      refine (Has_any a cap L nm _ hl S hm65 hF).mono ?_; rintro e w1 ⟨rfl, hb1⟩; rw [HH.out]
      have B1 := box hb1
      have F1 := box (hF.out.below hb1)
      clear hb1
      go_wp2_with fail
      refine (mAll_any a cap L nm _ S hv6 hm65 F1).mono ?_; rintro e w2 ⟨v2, rfl, hO2, hb2⟩
      rw [HAB.out] at hO2
      obtain ⟨a2, c2, rfl, hS2, hc2⟩ := hO2.ss
      rw [List.length_map] at hc2 ⊢
      have B2 := box (B1.out.trans (hb2.mono B1.out.size))
      have T2 := box (HT.out.below B2.out)
      have S2 := box hS2
      clear hO2 hb2 hS2
      go_wp2
      go_loopw [7, 26] (fun v i wr => PfRel k A w2 v i wr) (fun _ i _ => A.length - (intOf i).toNat)
      case atStart => exact ⟨0, rfl, Nat.zero_le _, OwnQ.nil _ _, Nat.le_refl _, Below.refl _ _⟩
      case round =>
        obtain ⟨j, rfl, hj, hO, hlen, hbel⟩ := hrel
        obtain ⟨acc, hacc⟩ : ∃ acc, (A.take j).filterMap (memP k) = acc := ⟨_, rfl⟩
        have HACC := box hacc
        rw [hacc] at hO hlen
        obtain ⟨av, cv, rfl, _, _⟩ := hO.qs
        have O0 := box hO
        have BL := box hbel
        have TL := box (T2.out.below hbel)
        have SS := S2.out.below hbel
        clear hO hbel hacc
        by_cases hlt : j < A.length
        · have hji : (j : Int) < (A.length : Int) := by omega
          obtain ⟨m, hm⟩ : ∃ m, A[j] = m := ⟨_, rfl⟩
          have HNX := box (fm_next (k := k) hlt)
          rw [HACC.out, hm] at HNX
          have hmz : (bs m).size ≤ 20000 := by rw [bs_size, ← hm]; exact HSZ.out j hlt
          obtain ⟨g, off, rfl, cA⟩ := SS j (by simpa using hlt)
          have cA' : wr.cell? ⟨g, off + j, none⟩ = some (.string (bs m)) := by rw [cA]; simp [hm]
          obtain ⟨o, ho⟩ : ∃ o, memP k m = o := ⟨_, rfl⟩
          have HO2 : Box (memP k (bs m).data.toList = o) := box ho
          rw [ho] at HNX
          clear cA SS hm ho
          go_wp2_with fail
          refine (mpp_is hk hmz TL.out HO2).mono ?_; rintro e w3 ⟨⟨x, q, b, rfl, hb, hp⟩, hb3⟩
          have O3 := box (own_below O0.out hb3)
          have B3 := box (BL.out.trans (hb3.mono BL.out.size))
          have HB := box hb
          have HPP := box hp
          clear hb3 hb hp cA'
          cases b with
          | false =>
            have HE : Box ((A.take (j + 1)).filterMap (memP k) = acc) := box (by
              rw [HNX.out]
              have h := HB.out
              cases o with
              | none => simp
              | some p => cases h)
            go_wp2
            go_roundw
            case rel => exact ⟨j + 1, by go_num, hlt, by rw [HE.out]; exact own_below O3.out (below_new _ _), by rw [HE.out]; omega, B3.out.alloc B3.out.size _⟩
            case measure => simp [intOf]; omega
          | true =>
            have HE : Box ((A.take (j + 1)).filterMap (memP k) = acc ++ [(x, q)]) := box (by
              rw [HNX.out]
              have h := HB.out
              have h2 := HPP.out
              cases o with
              | none => cases h
              | some p => rw [h2 p rfl])
            go_wp2_with (at_builtin; refine wpList_append_prf _ rfl (.tmp 37) (.tmp 39) rfl w2.heap.size _ acc rfl ?a1 _ _ rfl x q ?b1 ?b2 ?c1 ?d1 ?_)
            case a1 => exact own_below (own_below O3.out (below_new _ _)) (below_new _ _)
            case b1 => go_simp
            case b2 => go_simp
            case c1 => omega
            case d1 => have := B3.out.size; simp; omega
            intro v5 w5 hO5 hb5
            have O5 := box hO5
            have B5 := box (((B3.out.alloc B3.out.size _).alloc (B3.out.alloc B3.out.size _).size _).trans hb5)
            clear hO5 hb5
            go_wp2
            go_roundw
            case rel => exact ⟨j + 1, by go_num, hlt, by rw [HE.out]; exact O5.out, by rw [HE.out, List.length_append]; simp; omega, B5.out⟩
            case measure => simp [intOf]; omega
        · have hji : ¬ (j : Int) < (A.length : Int) := by omega
          have HE : Box (prefsV k L = acc) := box (by rw [HV.out, ← HACC.out, List.take_of_length_le (by omega)])
          clear SS
          go_wp2
          go_ret2
          exact ⟨_, by rw [HO.out]; rfl, by rw [HE.out]; exact own_le O0.out B2.out.size, B2.out.trans (BL.out.mono B2.out.size)⟩
theorem mPrefs_any (k : Int) (a : Option Addr) (cap : Nat) (L : List F) (w : World) (hk : InI64 k) (S : Box (Sm L)) (hv : Box (∀ x ∈ getL (nameK k) L, x.size ≤ 65000)) (hmz : Box (∀ m ∈ allL (nameK k) L, m.length ≤ 20000)) (hF : Box (Fs w a L)) (hW : Wts w) :
    Calls Tryz.prog 42 #[.int .i64 k, .slice a L.length cap] w fun e w' => ∃ p c, e = .returned (.tuple #[.slice p (prefsV k L).length c, .bool (prefsO k L)]) ∧ Qs w' p (prefsV k L) ∧ Below w.heap.size w w' :=
  (mPrefs0_any k a cap L w hk S hv hmz hF hW).mono fun e w' ⟨v, h1, h2, h3⟩ => by
    obtain ⟨p, c, rfl, hQ, _⟩ := h2.qs
    exact ⟨p, c, h1, hQ, h3⟩
end
section
open Go.RowKit
theorem mMed13_is {s : ByteArray} {a b : ByteArray} {L : List F} {q : Bool} {w : World} (hs : s.size ≤ 65000) (h : Box (ofM (mediaL s.data.toList) = (a, b, L) ∧ (mediaL s.data.toList).isSome = q)) :
    Calls Tryz.prog 120 #[.string s] w fun e w' => ∃ p cap, e = .returned (.tuple #[.agg #[.string a, .string b, .slice p L.length cap], .bool q]) ∧ Fs w' p L ∧ Below w.heap.size w w' :=
  (mMedia_any s w hs).mono fun e w' ⟨v, h1, h2, h3⟩ => by
    rw [h.out.1] at h1 h2
    rw [h.out.2] at h1
    obtain ⟨p, cap, rfl, hF, _⟩ := h2.fs
    exact ⟨p, cap, h1, hF, h3⟩
theorem mmatch13_is {a b c d : ByteArray} {p q : Option Addr} {cp cq : Nat} {K L : List F} {i : Int} {w : World} (hk : Box (K.length ≤ 65536)) (hl : Box (L.length ≤ 65536))
    (hzK : Box (∀ i (hi : i < K.length), K[i].1.size ≤ 65536 ∧ K[i].2.size ≤ 65536)) (hzL : Box (∀ i (hi : i < L.length), L[i].1.size ≤ 65536 ∧ L[i].2.size ≤ 65536)) (hK : Fs w p K) (hL : Fs w q L) (h : Box (matchI (a, b, K) (c, d, L) = i)) :
    Calls Tryz.prog 171 #[.agg #[.string a, .string b, .slice p K.length cp], .agg #[.string c, .string d, .slice q L.length cq]] w fun e w' => e = .returned (.int .i64 i) ∧ Below w.heap.size w w' :=
  (mMatch10_any a b c d p q cp cq K L w hk.out hl.out hzK hzL (box hK) (box hL)).mono fun e w' ⟨h1, h2⟩ => ⟨by rw [h1, h.out], h2⟩
set_option maxHeartbeats 1000000 in
theorem mMatMT_any (r v : ByteArray) (w : World) (hr : r.size ≤ 20000) (hv : v.size ≤ 20000) :
    Calls Tryz.prog 153 #[.string r, .string v] w fun e w' => e = .returned (.int .i64 (matchP 1 r.data.toList v.data.toList)) ∧ Below w.heap.size w w' := by
  obtain ⟨⟨a, b, K⟩, h1⟩ : ∃ m, ofM (rangeL r.data.toList) = m := ⟨_, rfl⟩
  obtain ⟨ok, h2⟩ : ∃ q, (rangeL r.data.toList).isSome = q := ⟨_, rfl⟩
  obtain ⟨⟨c, d, L⟩, h3⟩ : ∃ m, ofM (mediaL v.data.toList) = m := ⟨_, rfl⟩
  obtain ⟨is, h4⟩ : ∃ q, (mediaL v.data.toList).isSome = q := ⟨_, rfl⟩
  have HV := box (matchP_acc h1 h2 h3 h4)
  obtain ⟨k1, k2, _, _⟩ := range_len h1
  obtain ⟨l1, l2, _, _⟩ := media_len h3
  have lK : Box (K.length ≤ 65536) := box (by omega)
  have lL : Box (L.length ≤ 65536) := box (by omega)
  have zK : Box (∀ i (hi : i < K.length), K[i].1.size ≤ 65536 ∧ K[i].2.size ≤ 65536) := box (fun i hi => by have := k2 i hi; omega)
  have zL : Box (∀ i (hi : i < L.length), L[i].1.size ≤ 65536 ∧ L[i].2.size ≤ 65536) := box (fun i hi => by have := l2 i hi; omega)
  have H1 := box (And.intro h1 h2)
  have H2 := box (And.intro h3 h4)
  have hr6 : r.size ≤ 65000 := by omega
  have hv6 : v.size ≤ 65000 := by omega
  clear h1 h2 h3 h4 k1 k2 l1 l2
  go_enter Tryz.func153, Tryz.ntmps153
  go_wp2_with fail
  refine (mRange_is hr6 H1).mono ?_; rintro e w1 ⟨p1, c1, rfl, hO1, hb1⟩
  obtain ⟨p9, c9, hv9, hF1, _⟩ := hO1.fs
  cases hv9
  have hnw := below_new w1 (.cells #[.string a, .string b, .slice p1 K.length c1] 77)
  have C1 := box (C3.new (.string a) (.string b) (.slice p1 K.length c1) w1 77)
  have F1 := box (hF1.below hnw)
  have B1 := box (hb1.trans (hnw.mono hb1.size))
  clear hO1 hF1 hb1 hnw
  go_wp2_with fail
  refine (mMed13_is hv6 H2).mono ?_; rintro e w2 ⟨p2, c2, rfl, hF2, hb2⟩
  have hnw := below_new w2 (.cells #[.string c, .string d, .slice p2 L.length c2] 77)
  have N1 := C1.out.next hb2
  have F2 := box ((F1.out.below hb2).below hnw)
  have G2 := box (hF2.below hnw)
  have B2 := box (B1.out.trans ((hb2.trans (hnw.mono hb2.size)).mono B1.out.size))
  have hne : w1.heap.size ≠ w2.heap.size := Nat.ne_of_lt N1.lt
  obtain ⟨⟨s0, s1, s2⟩, _⟩ := N1.next hnw
  obtain ⟨⟨r0, r1, r2⟩, _⟩ := N1
  clear hF2 hb2 hnw
  cases ok with
  | false =>
    have HR : Box (matchP 1 r.data.toList v.data.toList = -1) := box (by rw [HV.out]; rfl)
    go_wp2
    go_ret
    exact ⟨by rw [HR.out]; rfl, B2.out⟩
  | true =>
    cases is with
    | false =>
      have HR : Box (matchP 1 r.data.toList v.data.toList = -1) := box (by rw [HV.out]; rfl)
      go_wp2
      go_ret
      exact ⟨by rw [HR.out]; rfl, B2.out⟩
    | true =>
      have HR : Box (matchI (a, b, K) (c, d, L) = matchP 1 r.data.toList v.data.toList) := box (by rw [HV.out]; rfl)
      go_wp2_with fail
      refine (mmatch13_is lK lL zK zL F2.out G2.out HR).mono ?_; rintro e w3 ⟨rfl, hb3⟩
      have B3 := box (B2.out.trans (hb3.mono B2.out.size))
      clear hb3 r0 r1 r2 s0 s1 s2
      go_wp2
      go_ret
      exact ⟨rfl, B3.out⟩
theorem mMatchC13_is {k i : Int} {r v : ByteArray} {w : World} (hk : InI64 k) (hr : r.size ≤ 20000) (hv : v.size ≤ 20000) (h : Box (matchC k r.data.toList v.data.toList = i)) :
    Calls Tryz.prog 174 #[.int .i64 k, .string r, .string v] w fun e w' => e = .returned (.int .i64 i) ∧ Below w.heap.size w w' :=
  (mMatchC_any k r v w hk (by omega) (by omega)).mono fun e w' ⟨h1, h2⟩ => ⟨by rw [h1, h.out], h2⟩
set_option maxHeartbeats 1000000 in
theorem mMatTok_any (k : Int) (r v : ByteArray) (w : World) (hk : k = 3 ∨ k = 4) (hr : r.size ≤ 20000) (hv : v.size ≤ 20000) :
    Calls Tryz.prog 155 #[.int .i64 k, .string r, .string v] w fun e w' => e = .returned (.int .i64 (matchP k r.data.toList v.data.toList)) ∧ Below w.heap.size w w' := by
  have HV := box (matchP_cod hk r.data.toList v.data.toList)
  have hki : InI64 k := by rcases hk with rfl | rfl <;> exact ⟨by omega, by omega⟩
  have hst := star13 (s := v)
  have hrm : r.size ≤ maxLen := by unfold maxLen; omega
  have hvm : v.size ≤ maxLen := by unfold maxLen; omega
  clear hk
  cases ht : tokL r.data.toList with
  | false =>
    have HT := box ht
    have HR : Box (matchP k r.data.toList v.data.toList = -1) := box (by rw [HV.out, ht]; rfl)
    clear ht hst
    go_enter Tryz.func155, Tryz.ntmps155
    go_wp2_with fail
    refine (aToken_is hrm HT).mono ?_; rintro e w1 ⟨rfl, rfl⟩
    go_wp2
    go_ret
    exact ⟨by rw [HR.out]; rfl, Below.refl _ _⟩
  | true =>
    have HT := box ht
    cases hu : tokL v.data.toList with
    | false =>
      have HU := box hu
      have HR : Box (matchP k r.data.toList v.data.toList = -1) := box (by rw [HV.out, ht, hu]; rfl)
      clear ht hu hst
      go_enter Tryz.func155, Tryz.ntmps155
      go_wp2_with fail
      refine (aToken_is hrm HT).mono ?_; rintro e w1 ⟨rfl, rfl⟩
      go_wp2_with fail
      refine (aToken_is hvm HU).mono ?_; rintro e w1 ⟨rfl, rfl⟩
      go_wp2
      go_ret
      exact ⟨by rw [HR.out]; rfl, Below.refl _ _⟩
    | true =>
      have HU := box hu
      by_cases hs : v.data.toList = [42]
      · have HR : Box (matchP k r.data.toList v.data.toList = -1) := box (by rw [HV.out, ht, hu, decide_eq_false (by simp [hs])]; rfl)
        rw [decide_eq_true hs] at hst
        clear ht hu hs
        go_enter Tryz.func155, Tryz.ntmps155
        go_wp2_with fail
        refine (aToken_is hrm HT).mono ?_; rintro e w1 ⟨rfl, rfl⟩
        go_wp2_with fail
        refine (aToken_is hvm HU).mono ?_; rintro e w1 ⟨rfl, rfl⟩
        go_wp2
        go_ret
        exact ⟨by rw [HR.out]; rfl, Below.refl _ _⟩
      · have HR : Box (matchC k r.data.toList v.data.toList = matchP k r.data.toList v.data.toList) := box (by rw [HV.out, ht, hu, decide_eq_true hs]; rfl)
        rw [decide_eq_false hs] at hst
        clear ht hu hs
        go_enter Tryz.func155, Tryz.ntmps155
        go_wp2_with fail
        refine (aToken_is hrm HT).mono ?_; rintro e w1 ⟨rfl, rfl⟩
        go_wp2_with fail
        refine (aToken_is hvm HU).mono ?_; rintro e w1 ⟨rfl, rfl⟩
        go_wp2_with fail
        refine (mMatchC13_is hki hr hv HR).mono ?_; rintro e w2 ⟨rfl, hb2⟩
        go_wp2
        go_ret
        exact ⟨rfl, hb2⟩
theorem mMatMT_is {r v : ByteArray} {i : Int} {w : World} (hr : r.size ≤ 20000) (hv : v.size ≤ 20000) (h : Box (matchP 1 r.data.toList v.data.toList = i)) :
    Calls Tryz.prog 153 #[.string r, .string v] w fun e w' => e = .returned (.int .i64 i) ∧ Below w.heap.size w w' :=
  (mMatMT_any r v w hr hv).mono fun e w' ⟨h1, h2⟩ => ⟨by rw [h1, h.out], h2⟩
theorem mMatTok_is {k i : Int} {r v : ByteArray} {w : World} (hk : k = 3 ∨ k = 4) (hr : r.size ≤ 20000) (hv : v.size ≤ 20000) (h : Box (matchP k r.data.toList v.data.toList = i)) :
    Calls Tryz.prog 155 #[.int .i64 k, .string r, .string v] w fun e w' => e = .returned (.int .i64 i) ∧ Below w.heap.size w w' :=
  (mMatTok_any k r v w hk hr hv).mono fun e w' ⟨h1, h2⟩ => ⟨by rw [h1, h.out], h2⟩
theorem mMatch13_any (k : Int) (r v : ByteArray) (w : World) (hk : InI64 k) (hr : r.size ≤ 20000) (hv : v.size ≤ 20000) :
    Calls Tryz.prog 124 #[.int .i64 k, .string r, .string v] w fun e w' => e = .returned (.int .i64 (matchP k r.data.toList v.data.toList)) ∧ Below w.heap.size w w' := by
  obtain ⟨i, hi⟩ : ∃ i, matchP k r.data.toList v.data.toList = i := ⟨_, rfl⟩
  rw [hi]
  by_cases h1 : k = 1
  · subst h1
    have HI := box hi
    clear hi
    go_enter Tryz.func124, Tryz.ntmps124
    go_wp2_with fail
    refine (mMatMT_is hr hv HI).mono ?_; rintro e w1 ⟨rfl, hb1⟩
    go_wp2
    go_ret
    exact ⟨rfl, hb1⟩
  · by_cases h2 : k = 2
    · subst h2
      have HI : Box (matchT r.data.toList v.data.toList = i) := box (by rw [← matchP_lan]; exact hi)
      have hr6 : r.size ≤ 65000 := by omega
      have hv6 : v.size ≤ 65000 := by omega
      clear h1 hi
      go_enter Tryz.func124, Tryz.ntmps124
      go_wp2_with fail
      refine (mMatchM_is hr6 hv6 HI).mono ?_; rintro e w1 ⟨rfl, hb1⟩
      go_wp2
      go_ret
      exact ⟨rfl, hb1⟩
    · have HI := box hi
      by_cases h3 : k = 3
      · subst h3
        clear h1 h2 hi
        go_enter Tryz.func124, Tryz.ntmps124
        go_wp2_with fail
        refine (mMatTok_is (.inl rfl) hr hv HI).mono ?_; rintro e w1 ⟨rfl, hb1⟩
        go_wp2
        go_ret
        exact ⟨rfl, hb1⟩
      · by_cases h4 : k = 4
        · subst h4
          clear h1 h2 h3 hi
          go_enter Tryz.func124, Tryz.ntmps124
          go_wp2_with fail
          refine (mMatTok_is (.inr rfl) hr hv HI).mono ?_; rintro e w1 ⟨rfl, hb1⟩
          go_wp2
          go_ret
          exact ⟨rfl, hb1⟩
        · have HV : Box (i = -1) := box (by rw [← hi]; exact matchP_no h1 h2 h3 h4 r.data.toList v.data.toList)
          have e1 : (k == 1) = false := by rw [beq_eq_false_iff_ne]; exact h1
          have e2 : (k == 2) = false := by rw [beq_eq_false_iff_ne]; exact h2
          have e3 : (k == 3) = false := by rw [beq_eq_false_iff_ne]; exact h3
          have e4 : (k == 4) = false := by rw [beq_eq_false_iff_ne]; exact h4
          clear h1 h2 h3 h4 hi
          go_enter Tryz.func124, Tryz.ntmps124
          go_wp2
          go_ret
          exact ⟨by rw [HV.out]; rfl, Below.refl _ _⟩
end
section
open Go.RowKit
theorem sJoin_any (a : Option Addr) (cap : Nat) (L : List ByteArray) (w : World) (hl : L.length ≤ 65536) (hc : L.length ≤ cap) (hz : Box (∀ x ∈ L, x.size ≤ 65536)) (hF : Box (Ss w a L)) :
    Calls Tryz.prog 71 #[.slice a L.length cap, .string ⟨#[44, 32]⟩] w fun e w' => e = .returned (.string (joinB L)) ∧ Below w.heap.size w w' := by
  match L, hl, hc, hz, hF with
  | [], _, _, _, _ => exact (Join0_any a cap w).mono fun e w' ⟨h1, h2⟩ => ⟨h1, h2 ▸ Below.refl _ _⟩
  | [x], _, _, _, hF =>
    obtain ⟨q, off, rfl, c0⟩ := hF.out 0 (Nat.zero_lt_succ 0)
    exact (Join1_any q off cap x w c0).mono fun e w' ⟨h1, h2⟩ => ⟨h1, h2 ▸ Below.refl _ _⟩
  | x :: y :: r, hl, hc, hz, hF =>
    obtain ⟨q, off, rfl, c0⟩ := hF.out 0 (Nat.zero_lt_succ _)
    exact JoinN_any q off cap (x :: y :: r) w (Nat.le_add_left 2 r.length) hl hc hz hF
theorem mJoin_any (a : Option Addr) (cap : Nat) (L : List ByteArray) (w : World) (hl : L.length ≤ 65536) (hc : L.length ≤ cap) (hz : Box (∀ x ∈ L, x.size ≤ 65536)) (hF : Box (Ss w a L)) :
    Calls Tryz.prog 80 #[.slice a L.length cap] w fun e w' => e = .returned (.string (joinB L)) ∧ Below w.heap.size w w' := by
  go_enter Tryz.func80, Tryz.ntmps80
  go_wp2_with fail
  refine (sJoin_any a cap L _ hl hc hz hF).mono ?_; rintro e w1 ⟨rfl, hb⟩
  have B := box hb
  clear hb
  go_wp2
  go_ret
  exact ⟨rfl, B.out⟩
end
section
open Go.RowKit
theorem mFq13_is {q : Int} {x : ByteArray} {w : World} (hq : InI64 q) (hW : Wts w) (h : Box (bs (fmtQ q) = x)) :
    Calls Tryz.prog 119 #[.int .i64 q] w fun e w' => e = .returned (.string x) ∧ Below w.heap.size w w' :=
  (mFormat8_any q w hq hW).mono fun e w' ⟨h1, h2⟩ => ⟨by rw [h1, h.out], h2⟩
set_option maxHeartbeats 1000000 in
theorem mfp_is {x : ByteArray} {q : Int} {y : ByteArray} {w : World} (hxz : x.size ≤ 65000) (hq : InI64 q) (hW : Wts w) (h : Box (bs (onePref (x, q)) = y)) :
    Calls Tryz.prog 79 #[.agg #[.string x, .int .i64 q]] w fun e w' => e = .returned (.string y) ∧ Below w.heap.size w w' := by
  have HT := box hW
  clear hW
  by_cases h1 : q = 1000
  · subst h1
    obtain rfl : x = y := by rw [← h.out]; unfold onePref; simp only [if_pos, List.append_nil]; rfl
    go_enter Tryz.func79, Tryz.ntmps79
    go_wp2
    go_ret
    exact ⟨rfl, below_new w _⟩
  · have hqn : (q == 1000) = false := by simp [h1]
    obtain ⟨f, hf⟩ : ∃ f, bs (fmtQ q) = f := ⟨_, rfl⟩
    have HFQ := box hf
    have hfz : f.size ≤ 5 := by rw [← hf, bs_size]; exact fmtQ_le5 q
    have hyq : (x ++ (⟨#[59, 113, 61]⟩ : ByteArray)) ++ f = y := by
      rw [← h.out, ← hf]
      unfold onePref
      rw [if_neg h1, bs_of (x ++ (⟨#[59, 113, 61]⟩ : ByteArray) ++ bs (fmtQ q))]
      congr 1
      simp
      rfl
    have ad1 : ∀ w, (Op.stringOp .add x ⟨#[59, 113, 61]⟩).run Tryz.prog w = .ok (.string (x ++ ⟨#[59, 113, 61]⟩)) w := fun w => run_string_add_sum w _ _ (by show x.size + 3 ≤ 9223372036854775807; omega)
    have ad2 : ∀ w, (Op.stringOp .add (x ++ (⟨#[59, 113, 61]⟩ : ByteArray)) f).run Tryz.prog w = .ok (.string y) w := fun w => by
      have := run_string_add_sum (P := Tryz.prog) w (x ++ (⟨#[59, 113, 61]⟩ : ByteArray)) f (by rw [ByteArray.size_append]; show x.size + 3 + f.size ≤ 9223372036854775807; omega)
      rw [hyq] at this; exact this
    have C0 := box (C2.new (.string x) (.int .i64 q) w 55)
    have B0 := box (below_new w (.cells #[.string x, .int .i64 q] 55))
    have T0 := box (HT.out.below B0.out)
    clear hf hyq h1
    go_enter Tryz.func79, Tryz.ntmps79
    go_wp2_with fail
    go_region_held3 (fun w' => w'.cell? ⟨w.heap.size, 0, none⟩ = some (.string x) ∧ w'.cell? ⟨w.heap.size, 1, none⟩ = some (.int .i64 q))
      (first | (exact ⟨C9.out.1.1, C9.out.1.2⟩) | (exact ⟨C0.out.1.1, C0.out.1.2⟩) | go_keep)
      (first | (go_at_call 119; refine (mFq13_is hq (T0.out.below (below_drewN _ _)) HFQ).mono ?_; rintro e w1 ⟨rfl, hb1⟩; have C9 := box ((C0.out.below (below_drewN _ _) C0.out.lt).next hb1); have B9 := box (B0.out.trans (((below_drewN _ _).trans (hb1.mono (below_drewN _ _).size)).mono B0.out.size))))
    go_wp2
    go_ret
    exact ⟨rfl, B9.out⟩
set_option maxHeartbeats 1000000 in
theorem mFmtPrefs_any (a : Option Addr) (cap : Nat) (L : List QP) (w : World) (hl : L.length ≤ 65536) (hz : Box (∀ i (hi : i < L.length), L[i].1.size ≤ 65000)) (hq : Box (∀ i (hi : i < L.length), InI64 L[i].2)) (hF : Box (Qs w a L)) (hW : Wts w) :
    Calls Tryz.prog 45 #[.slice a L.length cap] w fun e w' => e = .returned (.string (fmtPf L)) ∧ Below w.heap.size w w' := by
  have HT := box hW
  clear hW
  go_enter Tryz.func45, Tryz.ntmps45
  go_wp2
  go_loopw [3, 8] (fun v i wr => FpRel L w v i wr) (fun _ i _ => L.length - (intOf i).toNat)
  case atStart => exact ⟨0, rfl, Nat.zero_le _, OwnS.nil _ _, Below.refl _ _⟩
  case round =>
    obtain ⟨j, rfl, hj, hO, hbel⟩ := hrel
    obtain ⟨acc, hacc⟩ : ∃ acc, ((L.take j).map fun p => bs (onePref p)) = acc := ⟨_, rfl⟩
    have HACC := box hacc
    rw [hacc] at hO
    have hal : acc.length ≤ 65536 := by rw [← hacc, List.length_map, List.length_take]; omega
    obtain ⟨av, cv, rfl, _, hcv⟩ := hO.ss
    have O0 := box hO
    have BL := box hbel
    have TL := box (HT.out.below hbel)
    have QS := hF.out.below hbel
    clear hO hbel hacc
    by_cases hlt : j < L.length
    · have hji : (j : Int) < (L.length : Int) := by omega
      obtain ⟨⟨x, q⟩, hp⟩ : ∃ p, L[j] = p := ⟨_, rfl⟩
      have HNX := box (map_next (f := fun p : QP => bs (onePref p)) hlt)
      rw [HACC.out, hp] at HNX
      obtain ⟨g, off, rfl, c0, c1⟩ := QS j hlt
      rw [hp] at c0 c1
      have hxz : x.size ≤ 65000 := by have := hz.out j hlt; rw [hp] at this; exact this
      have hqi : InI64 q := by have := hq.out j hlt; rw [hp] at this; exact this
      obtain ⟨y, hy⟩ : ∃ y, bs (onePref (x, q)) = y := ⟨_, rfl⟩
      have HY := box hy
      have HE : Box (((L.take (j + 1)).map fun p => bs (onePref p)) = acc ++ [y]) := box (by rw [HNX.out, hy])
      have B2 : Box (Below w.heap.size w (wr.alloc (.cells #[.string x, .int .i64 q] 55))) := box (BL.out.alloc BL.out.size _)
      have T2 := box (HT.out.below B2.out)
      have O2 : Box (OwnS (wr.alloc (.cells #[.string x, .int .i64 q] 55)) w.heap.size (.slice av acc.length cv) acc) := box (own_below O0.out (below_new _ _))
      clear QS hp hy
      go_wp2_with fail
      refine (mfp_is hxz hqi T2.out HY).mono ?_; rintro e w3 ⟨rfl, hb3⟩
      have O3 := box (own_below O2.out hb3)
      have B3 := box (B2.out.trans (hb3.mono B2.out.size))
      clear hb3 c0 c1
      go_wp2_with (at_builtin; refine wpList_append_str _ rfl (.tmp 12) (.tmp 15) rfl w.heap.size _ acc rfl (own_below O3.out (below_new _ _)) _ _ rfl y (cell_new13 _ _ _) (by omega) (by have := B3.out.size; simp; omega) ?_)
      intro v5 w5 hO5 hb5
      have O5 := box hO5
      have B5 := box ((B3.out.alloc B3.out.size _).trans hb5)
      clear hO5 hb5
      go_wp2
      go_roundw
      case rel => exact ⟨j + 1, by go_num, hlt, by rw [HE.out]; exact O5.out, B5.out⟩
      case measure => simp [intOf]; omega
    · have hji : ¬ (j : Int) < (L.length : Int) := by omega
      have HE : Box (joinB acc = fmtPf L) := box (by unfold fmtPf; rw [← HACC.out, List.take_of_length_le (by omega)])
      have hsz : Box (∀ y ∈ acc, y.size ≤ 65536) := box (fun y hy => by
        rw [← HACC.out] at hy
        obtain ⟨p, hp, rfl⟩ := List.mem_map.1 hy
        obtain ⟨i, hi, rfl⟩ := List.getElem_of_mem (List.mem_of_mem_take hp)
        have h1 := hz.out i hi
        have h2 := fmtQ_le5 L[i].2
        rw [bs_size]
        unfold onePref
        rw [List.length_append]
        have hz2 : L[i].1.data.toList.length = L[i].1.size := by simp
        split
        · simp; omega
        · simp only [List.length_cons]; omega)
      obtain ⟨a5, c5, hv5, hS5, _⟩ := O0.out.ss
      cases hv5
      have S5 := box hS5
      clear QS hS5
      go_wp2_with fail
      refine (mJoin_any av cv acc _ hal hcv hsz S5).mono ?_; rintro e w3 ⟨rfl, hb3⟩
      have B3 := box (BL.out.trans (hb3.mono BL.out.size))
      clear hb3
      go_wp2
      go_ret
      exact ⟨by rw [← HE.out]; rfl, B3.out⟩
end
section
open Go.RowKit
theorem cell_size {w : World} {a : Addr} {v : Value} (h : w.cell? a = some v) : a.block < w.heap.size := by
  refine Nat.lt_of_not_le fun hle => ?_
  unfold World.cell? at h
  rw [Array.getElem?_eq_none hle] at h
  cases h
theorem gWeights : Tryz.prog.globalNamed "variantproxy/qvalue.weights" = some 0 := by kernel_rfl
theorem tWeights : (Tryz.prog.globals[0]?).map (·.type) = some 163 := by kernel_rfl
theorem wts_of_tab {W : World} (h : Lib.TabIs Tryz.prog W "variantproxy/qvalue.weights" .i64 [100, 10, 1]) : Wts W := by
  have c0 : W.cell? ⟨0, 0, none⟩ = some (.int .i64 100) := h.cell gWeights 0 (by decide)
  have c1 : W.cell? ⟨0, 1, none⟩ = some (.int .i64 10) := h.cell gWeights 1 (by decide)
  have c2 : W.cell? ⟨0, 2, none⟩ = some (.int .i64 1) := h.cell gWeights 2 (by decide)
  exact ⟨c0, c1, c2, cell_size c0⟩
/-- the table stands first on the row's list -/
theorem wts_of_laid {rest : List (String × DataW Unit)} {W : World} (h : laidMet Tryz.prog (("variantproxy/qvalue.weights", Lib.tabData .i64 [100, 10, 1]) :: rest) W) : Wts W :=
  wts_of_tab (Lib.tabIs_of_head gWeights tWeights Tryz.underlying163 Tryz.underlying3 (by kernel_rfl) (by kernel_rfl) h)
end
section
open Go.RowKit
theorem mKind_is {n : ByteArray} {k : Int} {w : World} (hn : n.size ≤ 65536) (h : Box (kindN n = k)) :
    Calls Tryz.prog 107 #[.string n] w fun e w' => e = .returned (.int .i64 k) ∧ Below w.heap.size w w' :=
  (mKind_any n w hn).mono fun e w' ⟨h1, h2⟩ => ⟨by rw [h1, h.out], h2⟩
theorem vals_of {nm : ByteArray} {L : List F} (hv : Box (∀ x ∈ getL nm L, x.size ≤ 20000)) : Box (∀ x ∈ getL nm L, x.size ≤ 65000) := box (fun x hx => by have := hv.out x hx; omega)
theorem mems_of {nm : ByteArray} {L : List F} (hv : Box (∀ x ∈ getL nm L, x.size ≤ 20000)) : Box (∀ m ∈ allL nm L, m.length ≤ 20000) := box (fun m hm => by obtain ⟨x, hx, hle⟩ := all_mem hm; have := hv.out x hx; omega)
theorem mPrefs_is {k : Int} {a : Option Addr} {cap n : Nat} {L : List F} {X : List QP} {o : Bool} {w : World} (hk : InI64 k) (S : Box (Sm L)) (hv : Box (∀ x ∈ getL (nameK k) L, x.size ≤ 20000)) (hF : Fs w a L) (hW : Wts w) (h : Box (prefsV k L = X ∧ prefsO k L = o)) (hn : Box (L.length = n) := by exact box rfl) :
    Calls Tryz.prog 42 #[.int .i64 k, .slice a n cap] w fun e w' => ∃ p c, e = .returned (.tuple #[.slice p X.length c, .bool o]) ∧ Qs w' p X ∧ Below w.heap.size w w' := by
  have := mPrefs_any k a cap L w hk S (vals_of hv) (mems_of hv) (box hF) hW
  rw [h.out.1, h.out.2, hn.out] at this; exact this
theorem rPrefs_is {k : Int} {a : Option Addr} {cap n : Nat} {L : List F} {X : List QP} {o : Bool} {w : World} (hk : InI64 k) (S : Box (Sm L)) (hv : Box (∀ x ∈ getL (nameK k) L, x.size ≤ 20000)) (hF : Fs w a L) (h : Box (prefsV k L = X ∧ prefsO k L = o)) (hn : Box (L.length = n) := by exact box rfl) :
    Calls Tryz.prog 32 #[.int .i64 k, .slice a n cap] w fun e w' => ∃ p c, e = .returned (.tuple #[.slice p X.length c, .bool o]) ∧ Qs w' p X ∧ Below w.heap.size w w' := by
  have := rPrefs_any k a cap L w hk S (vals_of hv) (mems_of hv) (box hF)
  rw [h.out.1, h.out.2, hn.out] at this
  refine this.mono fun e w' ⟨v, h1, h2, h3⟩ => ?_
  obtain ⟨p, c, rfl, hQ, _⟩ := h2.qs
  exact ⟨p, c, h1, hQ, h3⟩
theorem in13 {n : Int} (h : (Lit.int .i64 n).wf = true) : InI64 n := by
  unfold InI64
  simp [Lit.wf, IntKind.min, IntKind.max, IntKind.bits, IntKind.signed] at h
  omega
theorem prefs13_len (k : Int) (L : List F) : (prefsV k L).length ≤ 64 := by
  unfold prefsV
  split
  · unfold prefsL
    refine Nat.le_trans (List.length_filterMap_le _ _) ?_
    unfold allL; rw [List.length_take]; omega
  · simp
end
section
open Go.RowKit Go.ChangeShapes Go.WideShapes Go.Deep
def Kss (w : World) (a : Option Addr) (L : List KY) : Prop :=
  ∀ i (h : i < L.length), ∃ g off v, a = some ⟨g, off, none⟩ ∧ w.cell? ⟨g, off + i, none⟩ = some v ∧ SsV w v L[i]
theorem Kss.below {w w' : World} {a : Option Addr} {L : List KY} (h : Kss w a L) (hb : Below w.heap.size w w') : Kss w' a L := fun i hi => by
  obtain ⟨g, off, v, e, c0, hs⟩ := h i hi
  exact ⟨g, off, v, e, (hb.cell (cell_lt c0)).trans c0, hs.below hb⟩
def CellsK (w : World) (B : Nat) (cs : List Value) (L : List KY) : Prop :=
  cs.length = L.length ∧ (∀ u ∈ cs, u.oneCell' = true) ∧ ∀ i (h : i < L.length), ∃ u, cs[i]? = some u ∧ OwnS w B u L[i]
def OwnK (w : World) (B : Nat) (v : Value) (L : List KY) : Prop := ∃ cs, w.ownsRow B 29 1 v L.length cs ∧ CellsK w B cs L
theorem OwnK.nil (w : World) (B : Nat) : OwnK w B (.slice none 0 0) [] := ⟨[], World.ownsRow_nil _ _ _ _, rfl, by simp, fun i h => absurd h (by simp)⟩
theorem CellsK.next {w w' : World} {B : Nat} {cs : List Value} {L : List KY} (h : CellsK w B cs L) (hb : Below w.heap.size w w') : CellsK w' B cs L :=
  ⟨h.1, h.2.1, fun i hi => by obtain ⟨u, h2, h3⟩ := h.2.2 i hi; exact ⟨u, h2, own_below h3 hb⟩⟩
theorem OwnK.next {w w' : World} {B : Nat} {v : Value} {L : List KY} (h : OwnK w B v L) (hb : Below w.heap.size w w') : OwnK w' B v L := by
  obtain ⟨cs, h1, h2⟩ := h
  exact ⟨cs, own_below h1 hb, h2.next hb⟩
theorem own_grownK {w w' : World} {B n : Nat} {v u : Value} {cs : List Value} {V : List ByteArray} (hv : w.ownsRow B 29 1 v n cs) (hu : OwnS w B u V) (hg : w.grownBy w' v.ownBlock) : OwnS w' B u V := by
  refine ⟨hu.1, ?_⟩
  rcases hu.2 with q | ⟨g, cap, cur, hv2, hB, hgg, r⟩
  · exact .inl q
  · refine .inr ⟨g, cap, cur, hv2, hB, ?_, r⟩
    rw [hg.block g (heap_lt hgg) (fun e => ?_)]
    · exact hgg
    · rcases hv.2 with ⟨rfl, _⟩ | ⟨g2, cap2, cur2, rfl, _, hg2, _⟩
      · simp [Value.ownBlock] at e
      · simp [Value.ownBlock] at e
        subst e
        rw [hgg] at hg2
        simp at hg2
theorem CellsK.grown {w w' : World} {B n : Nat} {v : Value} {xs cs : List Value} {L : List KY} (h : CellsK w B cs L) (hv : w.ownsRow B 29 1 v n xs) (hg : w.grownBy w' v.ownBlock) : CellsK w' B cs L :=
  ⟨h.1, h.2.1, fun i hi => by obtain ⟨u, h2, h3⟩ := h.2.2 i hi; exact ⟨u, h2, own_grownK hv h3 hg⟩⟩
theorem CellsK.more {w : World} {B : Nat} {cs : List Value} {L : List KY} {u : Value} {V : List ByteArray} (h : CellsK w B cs L) (hu : OwnS w B u V) : CellsK w B (cs ++ [u]) (L ++ [V]) := by
  have hone : u.oneCell' = true := by obtain ⟨a, c, e, _⟩ := hu.ss; rw [e]; rfl
  refine ⟨by rw [List.length_append, List.length_append, h.1]; rfl, fun x hx => ?_, fun i hi => ?_⟩
  · rcases List.mem_append.1 hx with q | q
    · exact h.2.1 x q
    · rw [List.mem_singleton.1 q]; exact hone
  · by_cases e : i < L.length
    · obtain ⟨y, h2, h3⟩ := h.2.2 i e
      have hl := h.1
      rw [List.getElem_append_left e, List.getElem?_append_left (by omega)]
      exact ⟨y, h2, h3⟩
    · have hie : i = L.length := by rw [List.length_append] at hi; simp at hi; omega
      subst hie
      have hl := h.1
      rw [List.getElem_append_right (Nat.le_refl _), List.getElem?_append_right (by omega)]
      rw [show L.length - cs.length = 0 from by omega]
      simp only [Nat.sub_self]
      exact ⟨u, rfl, hu⟩
/-- two slices that do not lie in one block -/
def ApartK (v z : Value) : Prop := ∀ k, v.ownBlock = some k → z.ownBlock ≠ some k
theorem OwnK.lt {w : World} {B : Nat} {v : Value} {L : List KY} (h : OwnK w B v L) (k : Nat) (hk : v.ownBlock = some k) : k < w.heap.size := by
  obtain ⟨cs, h1, _⟩ := h
  exact (World.ownsRow.lt h1 k hk).2
theorem OwnK.grown {w w' : World} {B n : Nat} {v z : Value} {xs : List Value} {K : List KY} (h : OwnK w B z K) (hv : w.ownsRow B 29 1 v n xs) (hA : ApartK v z) (hg : w.grownBy w' v.ownBlock) : OwnK w' B z K := by
  obtain ⟨cs, h1, h2⟩ := h
  refine ⟨cs, ⟨h1.1, ?_⟩, h2.grown hv hg⟩
  rcases h1.2 with q | ⟨g, cap, cur, hv2, hB, hgg, r⟩
  · exact .inl q
  · refine .inr ⟨g, cap, cur, hv2, hB, ?_, r⟩
    rw [hg.block g (heap_lt hgg) (fun e => ?_)]
    · exact hgg
    · exact hA g e.symm (by rw [hv2]; rfl)
end
section
open Go.RowKit
/-- fields small enough -/
def FitL (L : List F) : Prop := Sm L ∧ ∀ nm, ∀ x ∈ getL nm L, x.size ≤ 9000
theorem kindN_in (n : ByteArray) : 0 ≤ kindN n ∧ kindN n ≤ 4 := by
  unfold kindN
  split
  · omega
  · split
    · omega
    · split
      · omega
      · split <;> omega
theorem kindN_i64 (n : ByteArray) : InI64 (kindN n) := by
  have := kindN_in n
  unfold InI64
  omega
theorem prefs17_len (k : Int) (L : List F) : (prefsV k L).length ≤ 65536 := by have := prefs13_len k L; omega
theorem prefs17_small {k : Int} {L : List F} (h : ∀ nm, ∀ x ∈ getL nm L, x.size ≤ 9000) : ∀ i (hi : i < (prefsV k L).length), (prefsV k L)[i].1.size ≤ 20000 := by
  intro i hi
  have hp := List.getElem_mem hi
  obtain ⟨p, hpe⟩ : ∃ p, (prefsV k L)[i] = p := ⟨_, rfl⟩
  rw [hpe] at hp ⊢
  unfold prefsV at hp
  split at hp
  · unfold prefsL at hp
    obtain ⟨m, hm, hmp⟩ := List.mem_filterMap.1 hp
    obtain ⟨x, hx, hle⟩ := all_mem hm
    have h1 := h _ x hx
    have h2 := (again hmp).2.2
    omega
  · cases hp
theorem FitL.vals {L : List F} (h : FitL L) (nm : ByteArray) : ∀ x ∈ getL nm L, x.size ≤ 20000 := fun x hx => by have := h.2 nm x hx; omega
theorem rPrefs17_is {k : Int} {a : Option Addr} {cap n : Nat} {L : List F} {X : List QP} {o : Bool} {w : World} (hk : InI64 k) (FL : Box (FitL L)) (hF : Fs w a L) (h : Box (prefsV k L = X ∧ prefsO k L = o)) (hn : Box (L.length = n) := by exact box rfl) :
    Calls Tryz.prog 32 #[.int .i64 k, .slice a n cap] w fun e w' => ∃ p c, e = .returned (.tuple #[.slice p X.length c, .bool o]) ∧ Qs w' p X ∧ Below w.heap.size w w' :=
  rPrefs_is hk (box FL.out.1) (box (FL.out.vals _)) hF h hn
theorem allB_len (nm : ByteArray) (L : List F) : (allB nm L).length ≤ 64 := by unfold allB allL; rw [List.length_map, List.length_take]; omega
theorem allB_small {nm : ByteArray} {L : List F} (hv : ∀ x ∈ getL nm L, x.size ≤ 20000) : ∀ x ∈ allB nm L, x.size ≤ 65536 := by
  intro y hy
  unfold allB at hy
  obtain ⟨m, hm, rfl⟩ := List.mem_map.1 hy
  obtain ⟨x, hx, hle⟩ := all_mem hm
  have := hv x hx
  rw [bs_size]; omega
theorem ss_one17 (x : ByteArray) (w : World) : OwnS (w.alloc (.cells #[.string x] 9)) w.heap.size (.slice (some ⟨w.heap.size, 0, none⟩) 1 1) [x] := by
  refine ⟨rfl, .inr ⟨w.heap.size, 1, #[.string x], rfl, Nat.le_refl _, heap_alloc_new w _, Nat.le_refl _, by unfold maxLen; omega, rfl, rfl⟩⟩
end
end Go.Proofs.YtklfpkaemnhdhaaGreatDoor.Asc
