/- Merged texts: LisRef4 BldJoin LisMine LisKeep LstSame LisLaws. -/
import Derived.Test.YtlbfadhhejnllaaM03
import Derived.Test.YtlbfadhhejnllaaM04
import Derived.Test.YtlbfadhhejnllaaM05
set_option linter.unusedVariables false
set_option linter.unusedSimpArgs false
set_option maxRecDepth 100000
namespace Go.Proofs.Ytlbfadhhejnllaa.Asc
section
open Go.RowKit
def joinB (L : List ByteArray) : ByteArray := bs (joinC (L.map fun x => x.data.toList))
def JoiRel (L : List ByteArray) (v i : Value) : Prop := ∃ (k : Nat) (x : ByteArray), i = .int .i64 k ∧ v = .string x ∧ k ≤ L.length ∧ x.data.toList = joinC ((L.map fun x => x.data.toList).take k) ∧ x.size ≤ 65540 * k
theorem bs_is {x : ByteArray} {l : List UInt8} (h : x.data.toList = l) : x = bs l := by subst h; rfl
set_option maxHeartbeats 1000000 in
theorem rJoin7_any (a : Option Addr) (cap : Nat) (L : List ByteArray) (w : World) (hl : L.length ≤ 65536) (hz : Box (∀ x ∈ L, x.size ≤ 65536)) (hF : Box (Ss w a L)) :
    Calls Try.prog 12 #[.slice a L.length cap] w fun e w' => e = .returned (.string (joinB L)) ∧ w = w' := by
  obtain ⟨ms, hms⟩ : ∃ ms, (L.map fun x => x.data.toList) = ms := ⟨_, rfl⟩
  have HMS := box hms
  have hml : ms.length = L.length := by rw [← hms, List.length_map]
  go_enter Try.func12, Try.ntmps12
  go_wp2
  go_loop [3, 4] (fun v i => JoiRel L v i) (fun _ i => L.length - (intOf i).toNat)
  case atStart => exact ⟨0, ⟨#[]⟩, rfl, rfl, Nat.zero_le _, rfl, Nat.zero_le _⟩
  case round =>
    obtain ⟨k, x, rfl, rfl, hk, hx, hxz⟩ := hrel
    rw [hms] at hx
    have HX := box hx
    clear hx
    by_cases hlt : k < L.length
    · obtain ⟨q, off, rfl, c0⟩ := hF.out k hlt
      have hLz := hz.out L[k] (List.getElem_mem hlt)
      have hmk : ms[k]'(by omega) = L[k].data.toList := by simp only [← hms, List.getElem_map]
      have hjm := joinC_more (ms := ms) (k := k) (by omega)
      rw [hmk] at hjm
      by_cases hk0 : k = 0
      · have hki : ¬ (0 : Int) < (k : Int) := by omega
        have hx0 : x.data.toList = [] := by rw [HX.out, hk0]; rfl
        have r1 : ∀ w, (Op.stringOp .add x L[k]).run Try.prog w = .ok (.string (x ++ L[k])) w := fun w => run_string_add_sum w _ _ (by show x.size + L[k].size ≤ 9223372036854775807; omega)
        have HN : Box ((x ++ L[k]).data.toList = joinC (ms.take (k + 1))) := box (by rw [hjm, if_pos hk0]; simp [ByteArray.data_append, hx0])
        have HS : Box ((x ++ L[k]).size ≤ 65540 * (k + 1)) := box (by rw [ByteArray.size_append]; omega)
        clear hx0 hk0 hjm hmk
        go_wp2
        go_round
        case rel => exact ⟨k + 1, _, by go_num, rfl, by omega, by rw [HMS.out]; exact HN.out, HS.out⟩
        case measure => simp [intOf]; omega
      · have hki : (0 : Int) < (k : Int) := by omega
        have e2 : (⟨#[44, 32]⟩ : ByteArray).size = 2 := rfl
        have hs1 : (x ++ (⟨#[44, 32]⟩ : ByteArray)).size = x.size + 2 := by rw [ByteArray.size_append, e2]
        have r0 : ∀ w, (Op.stringOp .add x ⟨#[44, 32]⟩).run Try.prog w = .ok (.string (x ++ ⟨#[44, 32]⟩)) w := fun w => run_string_add_sum w _ _ (by show x.size + 2 ≤ 9223372036854775807; omega)
        have r1 : ∀ w, (Op.stringOp .add (x ++ ⟨#[44, 32]⟩) L[k]).run Try.prog w = .ok (.string (x ++ ⟨#[44, 32]⟩ ++ L[k])) w := fun w => run_string_add_sum w _ _ (by rw [hs1]; show x.size + 2 + L[k].size ≤ 9223372036854775807; omega)
        have HN : Box ((x ++ ⟨#[44, 32]⟩ ++ L[k]).data.toList = joinC (ms.take (k + 1))) := box (by rw [hjm, if_neg hk0, ← HX.out]; simp [ByteArray.data_append])
        have HS : Box ((x ++ ⟨#[44, 32]⟩ ++ L[k]).size ≤ 65540 * (k + 1)) := box (by rw [ByteArray.size_append, hs1]; omega)
        clear e2 hs1 hk0 hjm hmk
        go_wp2
        go_round
        case rel => exact ⟨k + 1, _, by go_num, rfl, by omega, by rw [HMS.out]; exact HN.out, HS.out⟩
        case measure => simp [intOf]; omega
    · have HE : Box (joinB L = x) := box (by unfold joinB; rw [hms, ← List.take_of_length_le (l := ms) (i := k) (by omega)]; exact (bs_is HX.out).symm)
      go_wp2
      go_ret
      exact ⟨by rw [HE.out]; rfl, rfl⟩
end
section
open Go.RowKit
/-- the lengths of the first k -/
def lenT (L : List ByteArray) (k : Nat) : Nat := ((L.take k).map (·.size)).sum
theorem lenT_next {L : List ByteArray} {k : Nat} (h : k < L.length) : lenT L (k + 1) = lenT L k + L[k].size := by
  unfold lenT; rw [List.take_add_one, List.getElem?_eq_getElem h, Option.toList_some, List.map_append, List.sum_append]; rfl
theorem lenT_le {L : List ByteArray} (hz : ∀ x ∈ L, x.size ≤ 65536) : ∀ k, lenT L k ≤ k * 65536
  | 0 => by simp [lenT]
  | k + 1 => by
    have ih := lenT_le hz k
    by_cases h : k < L.length
    · rw [lenT_next h]; have := hz L[k] (List.getElem_mem h); omega
    · have e : lenT L (k + 1) = lenT L k := by unfold lenT; rw [List.take_of_length_le (by omega), List.take_of_length_le (by omega)]
      omega
theorem joinC_len {ms : List (List UInt8)} (hz : ∀ x ∈ ms, x.length ≤ 65536) : ∀ k, (joinC (ms.take k)).length ≤ k * 65540
  | 0 => by simp [joinC]
  | k + 1 => by
    have ih := joinC_len hz k
    by_cases h : k < ms.length
    · have := hz ms[k] (List.getElem_mem h)
      rw [joinC_more h]
      split
      · omega
      · simp only [List.length_append, List.length_cons, List.length_nil]; omega
    · have e : ms.take (k + 1) = ms.take k := by rw [List.take_of_length_le (by omega), List.take_of_length_le (by omega)]
      rw [e]
      exact Nat.le_trans ih (Nat.mul_le_mul_right _ (Nat.le_succ k))
theorem joinC_two {a b : List UInt8} {r : List (List UInt8)} : joinC (a :: b :: r) ≠ [] := by
  show a ++ [44, 32] ++ joinC (b :: r) ≠ []
  simp
theorem Join0_any (a : Option Addr) (cap : Nat) (w : World) :
    Calls Try.prog 23 #[.slice a 0 cap, .string ⟨#[44, 32]⟩] w fun e w' => e = .returned (.string ⟨#[]⟩) ∧ w = w' := by
  go_enter Try.func23, Try.ntmps23
  go_wp2
  go_ret
  exact ⟨rfl, rfl⟩
theorem Join1_any (q off cap : Nat) (x : ByteArray) (w : World) (c0 : w.cell? ⟨q, off, none⟩ = some (.string x)) :
    Calls Try.prog 23 #[.slice (some ⟨q, off, none⟩) 1 cap, .string ⟨#[44, 32]⟩] w fun e w' => e = .returned (.string x) ∧ w = w' := by
  go_enter Try.func23, Try.ntmps23
  go_wp2
  go_ret
  exact ⟨rfl, rfl⟩
def Jn1 (L : List ByteArray) (n i : Value) : Prop := ∃ k : Nat, k ≤ L.length ∧ i = .int .i64 k ∧ n = .int .i64 ((2 * (L.length - 1) + lenT L k : Nat) : Int)
def Jn2 (ms : List (List UInt8)) (B : Nat) (w : World) (i : Value) (wr : World) : Prop := ∃ k : Nat, k + 1 ≤ ms.length ∧ i = .int .i64 k ∧ Box (Bld wr B B (joinC (ms.take (k + 1)))) ∧ Box (Below B w wr)
set_option maxHeartbeats 2000000 in
theorem JoinN_any (q off cap : Nat) (L : List ByteArray) (w : World) (h2 : 2 ≤ L.length) (hl : L.length ≤ 65536) (hcap : L.length ≤ cap) (hz : Box (∀ x ∈ L, x.size ≤ 65536)) (hF : Box (Ss w (some ⟨q, off, none⟩) L)) :
    Calls Try.prog 23 #[.slice (some ⟨q, off, none⟩) L.length cap, .string ⟨#[44, 32]⟩] w fun e w' => e = .returned (.string (joinB L)) ∧ Below w.heap.size w w' := by
  have hdv : ¬ (9223372036854775807 / ((L.length : Int) - 1) ≤ 2) := by
    have : 3 ≤ 9223372036854775807 / ((L.length : Int) - 1) := by
      rw [Int.le_ediv_iff_mul_le (by omega)]; omega
    omega
  have hne0 : ((L.length : Int) == 0) = false := beq_eq_false_iff_ne.2 (by omega)
  have hne1 : ((L.length : Int) == 1) = false := beq_eq_false_iff_ne.2 (by omega)
  go_enter Try.func23, Try.ntmps23
  go_wp2_with fail
  go_loop [5, 41] (fun n i => Jn1 L n i) (fun _ i => L.length - (intOf i).toNat)
  case atStart => exact ⟨0, Nat.zero_le _, rfl, by unfold lenT; simp; omega⟩
  case round =>
    obtain ⟨k, hk, rfl, rfl⟩ := hrel
    have hlz := lenT_le hz.out k
    by_cases hlt : k < L.length
    · obtain ⟨q', off', e, c0⟩ := hF.out k hlt
      cases e
      have hx := hz.out L[k] (List.getElem_mem hlt)
      have HN := box (lenT_next hlt)
      obtain ⟨A, hA⟩ : ∃ A, lenT L k = A := ⟨_, rfl⟩
      have HA := box hA
      rw [hA] at hlz ⊢
      clear hA
      go_wp2
      go_round
      case rel => exact ⟨k + 1, by omega, by go_num, by rw [HN.out, HA.out]; go_num⟩
      case measure => simp [intOf]; omega
    · obtain rfl : k = L.length := by omega
      obtain ⟨n, hn⟩ : ∃ n, 2 * (L.length - 1) + lenT L L.length = n := ⟨_, rfl⟩
      have hn8 : n ≤ 281474976710656 := by omega
      rw [hn]
      clear hn hlz
      obtain ⟨ms, hms⟩ : ∃ ms, (L.map fun x => x.data.toList) = ms := ⟨_, rfl⟩
      have HJ : Box (joinB L = bs (joinC ms)) := box (by unfold joinB; rw [hms])
      have hml : ms.length = L.length := by rw [← hms, List.length_map]
      have HME : Box (∀ k (h : k < L.length), ms[k]'(by omega) = L[k].data.toList) := box (fun k h => by simp only [← hms, List.getElem_map])
      have HML : Box (∀ x ∈ ms, x.length ≤ 65536) := box (fun x hx => by
        rw [← hms] at hx
        obtain ⟨y, hy, rfl⟩ := List.mem_map.mp hx
        have := hz.out y hy
        simpa using this)
      clear hms
      have hq : q < w.heap.size := by
        obtain ⟨q', off', e, c0⟩ := hF.out 0 (by omega)
        cases e
        exact cell_lt c0
      go_wp2_with fail
      refine (Grow_new w.heap.size w.heap.size n _ (Nat.le_refl _) (heap_alloc_new w _) (by simp) hn8).mono ?_; rintro e w1 ⟨rfl, hA1, hb1⟩
      have A1 : Box (Bld w1 w.heap.size w.heap.size []) := box (.inr hA1)
      have B1 := box ((below_new w _).trans hb1)
      have hs1 := B1.out.size
      clear hA1 hb1
      have hl0 : 0 < L.length := by omega
      obtain ⟨q', off', e, c0⟩ := (hF.out.below B1.out) 0 hl0
      cases e
      rw [Nat.add_zero] at c0
      have hx0 := hz.out L[0] (List.getElem_mem hl0)
      go_wp2_with fail
      refine (WriteString_any w.heap.size w.heap.size [] L[0] _ A1 (by rw [List.length_nil]; omega) hs1).mono ?_; rintro e w2 ⟨rfl, hA2, hb2⟩
      have A2 : Box (Bld w2 w.heap.size w.heap.size (joinC (ms.take 1))) := box (.inr (by
        rw [joinC_more (k := 0) (by omega), if_pos rfl, HME.out 0 hl0]; exact hA2))
      have B2 := box (B1.out.trans hb2)
      clear hA2 hb2 c0
      go_wp2_with fail
      go_loopw [65] (fun i wr => Jn2 ms w.heap.size w i wr) (fun i _ => L.length - (intOf i).toNat)
      case atStart => exact ⟨0, by omega, rfl, A2, B2⟩
      case round =>
        obtain ⟨k, hk, rfl, A3, B3⟩ := hrel
        have hs3 := B3.out.size
        have hjl := joinC_len HML.out (k + 1)
        by_cases hlt : k + 1 < L.length
        · obtain ⟨q', off', e, c0⟩ := (hF.out.below B3.out) (k + 1) hlt
          cases e
          rw [show off + (k + 1) = off + 1 + k from by omega] at c0
          have hxk := hz.out L[k + 1] (List.getElem_mem hlt)
          go_wp2_with fail
          refine (WriteString_any w.heap.size w.heap.size _ ⟨#[44, 32]⟩ _ A3 (by show _ + 2 ≤ _; omega) hs3).mono ?_; rintro e w4 ⟨rfl, hA4, hb4⟩
          have A4 : Box (Bld w4 w.heap.size w.heap.size (joinC (ms.take (k + 1)) ++ [44, 32])) := box (.inr hA4)
          have B4 := box (B3.out.trans hb4)
          have hs4 := B4.out.size
          clear hA4 hb4
          go_wp2_with fail
          refine (WriteString_any w.heap.size w.heap.size _ L[k + 1] _ A4 (by rw [List.length_append]; show _ + 2 + _ ≤ _; omega) hs4).mono ?_; rintro e w5 ⟨rfl, hA5, hb5⟩
          have A5 : Box (Bld w5 w.heap.size w.heap.size (joinC (ms.take (k + 1 + 1)))) := box (.inr (by
            rw [joinC_more (k := k + 1) (by omega), if_neg (by omega), HME.out (k + 1) hlt]; exact hA5))
          have B5 := box (B4.out.trans hb5)
          clear hA5 hb5 c0
          go_wp2
          go_roundw
          case rel => exact ⟨k + 1, by omega, by go_num, A5, B5⟩
          case measure => simp [intOf]; omega
        · have hfull : ms.take (k + 1) = ms := List.take_of_length_le (by omega)
          rw [hfull] at A3
          have hne : joinC ms ≠ [] := by
            match ms, hml, h2 with
            | [], e, _ => simp at e; omega
            | [a], e, _ => simp at e; omega
            | a :: b :: r, _, _ => exact joinC_two
          go_wp2_with fail
          refine (String_any w.heap.size w.heap.size _ _ A3 hne).mono ?_; rintro e w6 ⟨rfl, hb6⟩
          have B6 := box (B3.out.trans hb6)
          clear hb6
          go_wp2
          go_ret
          exact ⟨by rw [HJ.out]; rfl, B6.out⟩
end
section
open Go.RowKit
theorem sJoin_any (a : Option Addr) (cap : Nat) (L : List ByteArray) (w : World) (hl : L.length ≤ 65536) (hc : L.length ≤ cap) (hz : Box (∀ x ∈ L, x.size ≤ 65536)) (hF : Box (Ss w a L)) :
    Calls Try.prog 23 #[.slice a L.length cap, .string ⟨#[44, 32]⟩] w fun e w' => e = .returned (.string (joinB L)) ∧ Below w.heap.size w w' := by
  match L, hl, hc, hz, hF with
  | [], _, _, _, _ => exact (Join0_any a cap w).mono fun e w' ⟨h1, h2⟩ => ⟨h1, h2 ▸ Below.refl _ _⟩
  | [x], _, _, _, hF =>
    obtain ⟨q, off, rfl, c0⟩ := hF.out 0 (Nat.zero_lt_succ 0)
    exact (Join1_any q off cap x w c0).mono fun e w' ⟨h1, h2⟩ => ⟨h1, h2 ▸ Below.refl _ _⟩
  | x :: y :: r, hl, hc, hz, hF =>
    obtain ⟨q, off, rfl, c0⟩ := hF.out 0 (Nat.zero_lt_succ _)
    exact JoinN_any q off cap (x :: y :: r) w (Nat.le_add_left 2 r.length) hl hc hz hF
theorem mJoin_any (a : Option Addr) (cap : Nat) (L : List ByteArray) (w : World) (hl : L.length ≤ 65536) (hc : L.length ≤ cap) (hz : Box (∀ x ∈ L, x.size ≤ 65536)) (hF : Box (Ss w a L)) :
    Calls Try.prog 11 #[.slice a L.length cap] w fun e w' => e = .returned (.string (joinB L)) ∧ Below w.heap.size w w' := by
  go_enter Try.func11, Try.ntmps11
  go_wp2_with fail
  refine (sJoin_any a cap L _ hl hc hz hF).mono ?_; rintro e w1 ⟨rfl, hb⟩
  have B := box hb
  clear hb
  go_wp2
  go_ret
  exact ⟨rfl, B.out⟩
end
section
open Go.RowKit
def okS (x : ByteArray) : Bool := decide (x.size ≤ 100)
def keepS (L : List ByteArray) : Bool := decide (L.length ≤ 20) && L.all okS
theorem keepS_bad {L : List ByteArray} {k : Nat} (h : k < L.length) (e : ¬ L[k].size ≤ 100) : keepS L = false := by
  unfold keepS
  have : L.all okS = false := by
    rw [List.all_eq_false]
    exact ⟨L[k], List.getElem_mem h, by unfold okS; simpa using e⟩
  rw [this, Bool.and_false]
theorem keepS_long {L : List ByteArray} (h : ¬ L.length ≤ 20) : keepS L = false := by unfold keepS; rw [decide_eq_false h, Bool.false_and]
theorem keepS_more {L : List ByteArray} {k : Nat} (h : k < L.length) (ha : (L.take k).all okS = true) (e : L[k].size ≤ 100) : (L.take (k + 1)).all okS = true := by
  rw [List.take_add_one, List.getElem?_eq_getElem h, List.all_append, ha]
  simp [okS, e]
theorem keepS_end {L : List ByteArray} (ha : (L.take L.length).all okS = true) (h : L.length ≤ 20) : keepS L = true := by
  rw [List.take_length] at ha
  unfold keepS; rw [ha, decide_eq_true h]; rfl
theorem keepS_small {L : List ByteArray} (h : keepS L = true) : L.length ≤ 20 ∧ ∀ x ∈ L, x.size ≤ 100 := by
  unfold keepS at h
  rw [Bool.and_eq_true, decide_eq_true_eq, List.all_eq_true] at h
  exact ⟨h.1, fun x hx => by have := h.2 x hx; unfold okS at this; simpa using this⟩
theorem keepStrings_any (a : Option Addr) (cap : Nat) (L : List ByteArray) (w : World) (hl : L.length ≤ maxLen) (hF : Box (Ss w a L)) :
    Calls Try.prog 7 #[.slice a L.length cap] w fun e w' => e = .returned (.bool (keepS L)) ∧ w = w' := by
  unfold maxLen at hl
  go_enter Try.func7, Try.ntmps7
  go_wp2
  go_loop [3] (fun i => ∃ k : Nat, k ≤ L.length ∧ k ≤ 21 ∧ i = .int .i64 k ∧ (L.take k).all okS = true) (fun i => 21 - (intOf i).toNat)
  case atStart => exact ⟨0, Nat.zero_le _, Nat.zero_le _, rfl, rfl⟩
  case round =>
    obtain ⟨k, hk, hk71, rfl, hall⟩ := hrel
    have HA := box hall
    clear hall
    by_cases hlt : k < L.length
    · by_cases h71 : k < 21
      · obtain ⟨g, off, rfl, c0⟩ := hF.out k hlt
        by_cases e1 : L[k].size ≤ 100
        · have ei : ¬ (100 : Int) < (L[k].size : Int) := by omega
          have HN := box (keepS_more hlt HA.out e1)
          clear e1
          go_wp2
          go_round
          case rel => exact ⟨k + 1, by omega, by omega, by go_num, HN.out⟩
          case measure => simp [intOf]; omega
        · have ei : (100 : Int) < (L[k].size : Int) := by omega
          have HN := box (keepS_bad hlt e1)
          clear e1
          go_wp2
          go_ret
          exact ⟨ret_bool HN.out.symm, rfl⟩
      · go_wp2
        go_ret
        exact ⟨ret_bool (by rw [keepS_long (by omega)]; simp; omega), rfl⟩
    · have e : k = L.length := by omega
      have E := box e
      clear e
      by_cases h70 : L.length ≤ 20
      · go_wp2
        go_ret
        refine ⟨ret_bool ?_, rfl⟩
        have ha := HA.out
        rw [E.out] at ha
        rw [keepS_end ha h70]
        simp; omega
      · go_wp2
        go_ret
        exact ⟨ret_bool (by rw [keepS_long h70]; simp; omega), rfl⟩
end
section
open Go.RowKit
theorem str_eq {a b : ByteArray} (h : (a.toList == b.toList) = true) : a = b := by
  rw [toList_data, toList_data] at h
  rw [bs_of a, bs_of b, eq_of_beq h]
theorem take_same {α : Type} {K L : List α} {k : Nat} (hK : k < K.length) (hL : k < L.length) (h : K.take k = L.take k) (e : K[k] = L[k]) : K.take (k + 1) = L.take (k + 1) := by
  rw [take_next hK, take_next hL, h, e]
theorem not_same {α : Type} {K L : List α} {k : Nat} (hK : k < K.length) (hL : k < L.length) (e : K[k] ≠ L[k]) : K ≠ L := by
  intro h; subst h; exact e rfl
set_option maxHeartbeats 800000 in
theorem SameS_any (a b : Option Addr) (ca cb : Nat) (K L : List ByteArray) (w : World) (hk : K.length ≤ 65536) (hl : L.length ≤ 65536) (hK : Box (Ss w a K)) (hL : Box (Ss w b L)) :
    Calls Try.prog 19 #[.slice a K.length ca, .slice b L.length cb] w fun e w' => e = .returned (.bool (decide (K = L))) ∧ Below w.heap.size w w' := by
  by_cases hn : K.length = L.length
  · have HN := box hn
    have hne : ((K.length : Int) != (L.length : Int)) = false := by simp [hn]
    clear hn
    go_enter Try.func19, Try.ntmps19
    go_wp2
    go_loopw [5] (fun i wr => ∃ k : Nat, k ≤ K.length ∧ i = .int .i64 k ∧ K.take k = L.take k ∧ Below w.heap.size w wr) (fun i _ => K.length - (intOf i).toNat)
    case atStart => exact ⟨0, Nat.zero_le _, rfl, rfl, Below.refl _ _⟩
    case round =>
      obtain ⟨k, hk2, rfl, hall, hbel⟩ := hrel
      have HA := box hall
      clear hall
      by_cases hlt : k < K.length
      · have hlt2 : k < L.length := by rw [← HN.out]; exact hlt
        obtain ⟨q, off, rfl, c0⟩ := (hK.out.below hbel) k hlt
        obtain ⟨r, off2, rfl, d0⟩ := (hL.out.below hbel) k hlt2
        go_wp2
        go_quiet (fail)
        go_wp2
        · have h : (!K[k].toList == L[k].toList) = true := by assumption
          go_ret
          have hne2 : K[k] ≠ L[k] := fun e => by rw [e] at h; simp at h
          exact ⟨ret_bool (decide_eq_false (not_same hlt hlt2 hne2)).symm, hbel.trans ((below_drewN _ _).mono hbel.size)⟩
        · have h : (!K[k].toList == L[k].toList) = false := by assumption
          have e : K[k] = L[k] := str_eq (by simpa using h)
          have E := box e
          clear e h
          go_roundw
          case rel => exact ⟨k + 1, by omega, by go_num, take_same hlt hlt2 HA.out E.out, hbel.trans ((below_drewN _ _).mono hbel.size)⟩
          case measure => simp [intOf]; omega
      · have e : k = K.length := by omega
        have E : Box (K = L) := box (by
          have h := HA.out
          subst e
          rw [List.take_length, HN.out, List.take_length] at h
          exact h)
        clear e
        go_wp2
        go_ret
        exact ⟨ret_bool (decide_eq_true E.out).symm, hbel⟩
  · have hne : ((K.length : Int) != (L.length : Int)) = true := by simp; omega
    have HN := box hn
    clear hn
    go_enter Try.func19, Try.ntmps19
    go_wp2
    go_ret
    exact ⟨ret_bool (decide_eq_false (fun e => HN.out (by rw [e]))).symm, Below.refl _ _⟩
theorem kSameS_any (a b : Option Addr) (ca cb : Nat) (K L : List ByteArray) (w : World) (hk : K.length ≤ 65536) (hl : L.length ≤ 65536) (hK : Box (Ss w a K)) (hL : Box (Ss w b L)) :
    Calls Try.prog 8 #[.slice a K.length ca, .slice b L.length cb] w fun e w' => e = .returned (.bool (decide (K = L))) ∧ Below w.heap.size w w' := by
  go_enter Try.func8, Try.ntmps8
  go_wp2_with fail
  refine (SameS_any a b ca cb K L _ hk hl hK hL).mono ?_; rintro e w1 ⟨rfl, hb⟩
  go_wp2
  go_ret
  exact ⟨rfl, hb⟩
end
section
open Go.RowKit
theorem mSplit_is {s : ByteArray} {K : List ByteArray} {w : World} (hs : s.size ≤ 65000) (h : Box (splitB s.data.toList = K)) :
    Calls Try.prog 9 #[.string s] w fun e w' => ∃ a cap, e = .returned (.slice a K.length cap) ∧ Ss w' a K ∧ Below w.heap.size w w' :=
  (mSplit_any s w hs).mono fun e w' ⟨v, h1, h2, h3⟩ => by
    rw [h.out] at h2
    obtain ⟨a, cap, rfl, hS, _⟩ := h2.ss
    exact ⟨a, cap, h1, hS, h3⟩
theorem mSplit_isC {s : ByteArray} {K : List ByteArray} {w : World} (hs : s.size ≤ 65000) (h : Box (splitB s.data.toList = K)) :
    Calls Try.prog 9 #[.string s] w fun e w' => ∃ a cap, e = .returned (.slice a K.length cap) ∧ Ss w' a K ∧ K.length ≤ cap ∧ Below w.heap.size w w' :=
  (mSplit_any s w hs).mono fun e w' ⟨v, h1, h2, h3⟩ => by
    rw [h.out] at h2
    obtain ⟨a, cap, rfl, hS, hc⟩ := h2.ss
    exact ⟨a, cap, h1, hS, hc, h3⟩
theorem rSplit_is {s : ByteArray} {K : List ByteArray} {w : World} (hs : s.size ≤ 65000) (h : Box (splitB s.data.toList = K)) :
    Calls Try.prog 10 #[.string s] w fun e w' => ∃ a cap, e = .returned (.slice a K.length cap) ∧ Ss w' a K ∧ K.length ≤ cap ∧ Below w.heap.size w w' :=
  (rSplit_any s w hs).mono fun e w' ⟨v, h1, h2, h3⟩ => by
    rw [h.out] at h2
    obtain ⟨a, cap, rfl, hS, hc⟩ := h2.ss
    exact ⟨a, cap, h1, hS, hc, h3⟩
theorem mJoin_is {a : Option Addr} {n cap : Nat} {L : List ByteArray} {x : ByteArray} {w : World} (hn : Box (L.length = n)) (hl : Box (L.length ≤ 65536)) (hz : Box (∀ x ∈ L, x.size ≤ 65536)) (hcp : Box (L.length ≤ cap)) (hF : Ss w a L) (h : Box (joinB L = x)) :
    Calls Try.prog 11 #[.slice a n cap] w fun e w' => e = .returned (.string x) ∧ Below w.heap.size w w' := by
  have := (mJoin_any a cap L w hl.out hcp.out hz (box hF))
  rw [hn.out, h.out] at this; exact this
theorem rJoin_is7 {a : Option Addr} {n cap : Nat} {L : List ByteArray} {x : ByteArray} {w : World} (hn : Box (L.length = n)) (hl : Box (L.length ≤ 65536)) (hz : Box (∀ x ∈ L, x.size ≤ 65536)) (hF : Ss w a L) (h : Box (joinB L = x)) :
    Calls Try.prog 12 #[.slice a n cap] w fun e w' => e = .returned (.string x) ∧ w = w' := by
  have := (rJoin7_any a cap L w hl.out hz (box hF))
  rw [hn.out, h.out] at this; exact this
theorem same_is {a b : Option Addr} {n m ca cb : Nat} {K L : List ByteArray} {q : Bool} {w : World} (hn : Box (K.length = n)) (hm : Box (L.length = m)) (hk : Box (K.length ≤ 65536)) (hl : Box (L.length ≤ 65536)) (hK : Ss w a K) (hL : Ss w b L) (h : Box (decide (K = L) = q)) :
    Calls Try.prog 8 #[.slice a n ca, .slice b m cb] w fun e w' => e = .returned (.bool q) ∧ Below w.heap.size w w' := by
  have := kSameS_any a b ca cb K L w hk.out hl.out (box hK) (box hL)
  rw [hn.out, hm.out, h.out] at this; exact this
theorem split_count (l : List UInt8) : (splitB l).length ≤ 65536 := by unfold splitB; rw [List.length_map]; have := split_len l; omega
theorem ss_three (a b c : ByteArray) (w : World) (t : TypeId) : Ss (w.alloc (.cells #[.string a, .string b, .string c] t)) (some ⟨w.heap.size, 0, none⟩) [a, b, c] := by
  intro i hi
  refine ⟨w.heap.size, 0, rfl, ?_⟩
  rw [Nat.zero_add, World.cell?_alloc_mark]
  match i, hi with
  | 0, _ => rfl
  | 1, _ => rfl
  | 2, _ => rfl
def aw7 : ByteArray := ⟨#[97, 44, 32, 34, 98, 44, 99, 34, 32, 44, 44, 100]⟩
def aw7L : List ByteArray := [⟨#[97]⟩, ⟨#[34, 98, 44, 99, 34]⟩, ⟨#[100]⟩]
theorem aw7_is : splitB aw7.data.toList = aw7L := by decide +kernel
theorem awake7_any (w : World) : Calls Try.prog 13 #[] w fun e w' => e = .returned (.bool true) ∧ Below w.heap.size w w' := by
  have HS := box aw7_is
  have HD : Box (decide (aw7L = aw7L) = true) := box (by simp)
  have hz : aw7.size ≤ 65000 := by decide
  go_enter Try.func13, Try.ntmps13
  go_wp2_with fail
  refine (mSplit_is (s := aw7) hz HS).mono ?_; rintro e w1 ⟨a1, cap1, rfl, hS1, hb1⟩
  have S1 := box hS1
  have B1 := box hb1
  clear hS1 hb1
  go_wp2_with fail
  refine (same_is (K := aw7L) (L := aw7L) (box rfl) (box rfl) (box (by decide)) (box (by decide)) (S1.out.below (below_new _ _)) (ss_three _ _ _ _ _) HD).mono ?_; rintro e w2 ⟨rfl, hb2⟩
  have B2 := box ((B1.out.alloc B1.out.size _).trans (hb2.mono (B1.out.alloc B1.out.size _).size))
  clear hb2
  go_wp2
  go_ret
  exact ⟨rfl, B2.out⟩
set_option maxHeartbeats 1000000 in
theorem splits7_walk (s : ByteArray) (a : Option Addr) (cap : Nat) (L : List ByteArray) (w : World) (S : s.size ≤ maxLen) (hl : L.length ≤ maxLen) (hF : Ss w a L) (hc : L.length ≤ cap) :
    Calls Try.prog 3 #[.string s, .slice a L.length cap] w fun e w' => e = .returned (.bool true) ∧ Below w.heap.size w w' := by
  have F0 := box hF
  have HL := box hl
  unfold maxLen at S hl
  clear hF
  by_cases h : 3000 < s.size
  · have hi : (3000 : Int) < (s.size : Int) := by omega
    go_enter Try.func3, Try.ntmps3
    go_wp2
    go_ret
    exact ⟨rfl, Below.refl _ _⟩
  · have hi : ¬ (3000 : Int) < (s.size : Int) := by omega
    rcases hk : keepS L with _ | _
    · have HK := box hk
      clear hk
      go_enter Try.func3, Try.ntmps3
      go_wp2_with fail
      refine (keepStrings_any a cap L _ HL.out F0).mono ?_; rintro e w1 ⟨rfl, rfl⟩; rw [HK.out]
      go_wp2
      go_ret
      exact ⟨rfl, Below.refl _ _⟩
    · have HK := box hk
      obtain ⟨hl20, hsm⟩ := keepS_small hk
      have hl6 : Box (L.length ≤ 65536) := box (by omega)
      have hz6 : Box (∀ x ∈ L, x.size ≤ 65536) := box (fun x hx => by have := hsm x hx; omega)
      obtain ⟨K, hK⟩ : ∃ K, splitB s.data.toList = K := ⟨_, rfl⟩
      have HKK := box hK
      have hkl : Box (K.length ≤ 65536) := box (by rw [← hK]; exact split_count _)
      obtain ⟨x, hx⟩ : ∃ x, joinB L = x := ⟨_, rfl⟩
      have HX := box hx
      have hs6 : s.size ≤ 65000 := by omega
      clear hk hK hx hsm
      go_enter Try.func3, Try.ntmps3
      go_wp2_with fail
      refine (keepStrings_any a cap L _ HL.out F0).mono ?_; rintro e w1 ⟨rfl, rfl⟩; rw [HK.out]
      go_wp2_with fail
      refine (mSplit_is hs6 HKK).mono ?_; rintro e w2 ⟨a2, cap2, rfl, hS2, hb2⟩
      have S2 := box hS2
      have B2 := box hb2
      have F2 := box (F0.out.below hb2)
      clear hS2 hb2
      go_wp2_with fail
      refine (rSplit_is hs6 HKK).mono ?_; rintro e w3 ⟨a3, cap3, rfl, hS3, _, hb3⟩
      have S3 := box hS3
      have T3 := box (S2.out.below hb3)
      have B3 := box (B2.out.trans (hb3.mono B2.out.size))
      have F3 := box (F2.out.below hb3)
      clear hS3 hb3
      go_wp2_with fail
      refine (same_is (K := K) (L := K) (q := true) (box rfl) (box rfl) hkl hkl T3.out S3.out (box (by simp))).mono ?_; rintro e w4 ⟨rfl, hb4⟩
      have B4 := box (B3.out.trans (hb4.mono B3.out.size))
      have F4 := box (F3.out.below hb4)
      clear hb4
      go_wp2_with fail
      refine (mJoin_is (L := L) (box rfl) hl6 hz6 (box hc) F4.out HX).mono ?_; rintro e w5 ⟨rfl, hb5⟩
      have B5 := box (B4.out.trans (hb5.mono B4.out.size))
      have F5 := box (F4.out.below hb5)
      clear hb5
      go_wp2_with fail
      refine (rJoin_is7 (L := L) (box rfl) hl6 hz6 F5.out HX).mono ?_; rintro e w6 ⟨rfl, rfl⟩
      go_wp2_with fail
      refine (awake7_any _).mono ?_; rintro e w7 ⟨rfl, hb7⟩
      have B7 := box (B5.out.trans (hb7.mono B5.out.size))
      clear hb7
      go_wp2
      go_ret
      exact ⟨rfl, B7.out⟩
theorem mAll_is {a : Option Addr} {cap : Nat} {L : List F} {nm : ByteArray} {K : List ByteArray} {w : World} (S : Box (Sm L)) (hv : Box (∀ x ∈ getL nm L, x.size ≤ 65000)) (M : Box (nm.size ≤ 65536)) (hF : Fs w a L) (h : Box (allB nm L = K)) :
    Calls Try.prog 15 #[.slice a L.length cap, .string nm] w fun e w' => ∃ a2 cap2, e = .returned (.slice a2 K.length cap2) ∧ Ss w' a2 K ∧ Below w.heap.size w w' :=
  (mAll_any a cap L nm w S hv M (box hF)).mono fun e w' ⟨v, h1, h2, h3⟩ => by
    rw [h.out] at h2
    obtain ⟨a2, cap2, rfl, hS, _⟩ := h2.ss
    exact ⟨a2, cap2, h1, hS, h3⟩
theorem rAll_is {a : Option Addr} {cap : Nat} {L : List F} {nm : ByteArray} {K : List ByteArray} {w : World} (S : Box (Sm L)) (hv : Box (∀ x ∈ getL nm L, x.size ≤ 65000)) (M : Box (nm.size ≤ 65536)) (hF : Fs w a L) (h : Box (allB nm L = K)) :
    Calls Try.prog 16 #[.slice a L.length cap, .string nm] w fun e w' => ∃ a2 cap2, e = .returned (.slice a2 K.length cap2) ∧ Ss w' a2 K ∧ Below w.heap.size w w' :=
  (rAll_any a cap L nm w S hv M (box hF)).mono fun e w' ⟨v, h1, h2, h3⟩ => by
    rw [h.out] at h2
    obtain ⟨a2, cap2, rfl, hS, _⟩ := h2.ss
    exact ⟨a2, cap2, h1, hS, h3⟩
theorem all_count (nm : ByteArray) (L : List F) : (allB nm L).length ≤ 65536 := by unfold allB allL; rw [List.length_map, List.length_take]; omega
theorem keep_get {L : List F} (h : keepF L = true) (nm : ByteArray) : ∀ x ∈ getL nm L, x.size ≤ 65000 := by
  intro x hx
  obtain ⟨_, h2⟩ := keep_parts h
  unfold getL at hx
  obtain ⟨p, hp, rfl⟩ := List.mem_map.mp hx
  obtain ⟨i, hi, e⟩ := List.getElem_of_mem (List.mem_filter.mp hp).1
  rw [← e]; have := (h2 i hi).2; omega
theorem keep_sm7 {L : List F} (h : keepF L = true) : Sm L := by
  obtain ⟨h1, h2⟩ := keep_parts h
  exact ⟨by omega, fun i hi => by have := h2 i hi; omega⟩
set_option maxHeartbeats 1000000 in
theorem all7_walk (a : Option Addr) (cap : Nat) (L : List F) (nm : ByteArray) (w : World) (hl : L.length ≤ maxLen) (hF : Fs w a L) (hc : L.length ≤ cap) (S : nm.size ≤ maxLen) :
    Calls Try.prog 4 #[.slice a L.length cap, .string nm] w fun e w' => e = .returned (.bool true) ∧ Below w.heap.size w w' := by
  have F0 := box hF
  have HL := hl
  unfold maxLen at S
  clear hF hl
  rcases hk : keepF L with _ | _
  · have HK := box hk
    clear hk
    go_enter Try.func4, Try.ntmps4
    go_wp2_with fail
    refine (keepFields_any a cap L _ HL F0).mono ?_; rintro e w1 ⟨rfl, rfl⟩; rw [HK.out]
    go_wp2
    go_ret
    exact ⟨rfl, Below.refl _ _⟩
  · have HK := box hk
    by_cases hn : 300 < nm.size
    · have hni : (300 : Int) < (nm.size : Int) := by omega
      clear hk
      go_enter Try.func4, Try.ntmps4
      go_wp2_with fail
      refine (keepFields_any a cap L _ HL F0).mono ?_; rintro e w1 ⟨rfl, rfl⟩; rw [HK.out]
      go_wp2
      go_ret
      exact ⟨rfl, Below.refl _ _⟩
    · have hni : ¬ (300 : Int) < (nm.size : Int) := by omega
      have SM := box (keep_sm7 hk)
      have HV := box (keep_get hk nm)
      have M : Box (nm.size ≤ 65536) := box (by omega)
      obtain ⟨K, hK⟩ : ∃ K, allB nm L = K := ⟨_, rfl⟩
      have HKK := box hK
      have hkl : Box (K.length ≤ 65536) := box (by rw [← hK]; exact all_count _ _)
      clear hk hK
      go_enter Try.func4, Try.ntmps4
      go_wp2_with fail
      refine (keepFields_any a cap L _ HL F0).mono ?_; rintro e w1 ⟨rfl, rfl⟩; rw [HK.out]
      go_wp2_with fail
      refine (mAll_is SM HV M F0.out HKK).mono ?_; rintro e w2 ⟨a2, cap2, rfl, hS2, hb2⟩
      have S2 := box hS2
      have B2 := box hb2
      have F2 := box (F0.out.below hb2)
      clear hS2 hb2
      go_wp2_with fail
      refine (rAll_is SM HV M F2.out HKK).mono ?_; rintro e w3 ⟨a3, cap3, rfl, hS3, hb3⟩
      have S3 := box hS3
      have T3 := box (S2.out.below hb3)
      have B3 := box (B2.out.trans (hb3.mono B2.out.size))
      clear hS3 hb3
      go_wp2_with fail
      refine (same_is (K := K) (L := K) (q := true) (box rfl) (box rfl) hkl hkl T3.out S3.out (box (by simp))).mono ?_; rintro e w4 ⟨rfl, hb4⟩
      have B4 := box (B3.out.trans (hb4.mono B3.out.size))
      clear hb4
      go_wp2_with fail
      refine (awake7_any _).mono ?_; rintro e w7 ⟨rfl, hb7⟩
      have B7 := box (B4.out.trans (hb7.mono B4.out.size))
      clear hb7
      go_wp2
      go_ret
      exact ⟨rfl, B7.out⟩
end
end Go.Proofs.Ytlbfadhhejnllaa.Asc
