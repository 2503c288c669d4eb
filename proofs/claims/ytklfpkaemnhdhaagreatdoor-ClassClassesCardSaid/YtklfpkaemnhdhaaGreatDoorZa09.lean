/- Merged texts: BldJoin BldJsp VarMem VarRef MedLen VarRef2 VarRef3 VarRef4 VarRef6 VarMem2. -/
import Derived.Test.YtklfpkaemnhdhaaGreatDoorZa02
import Derived.Test.YtklfpkaemnhdhaaGreatDoorZa03
import Derived.Test.YtklfpkaemnhdhaaGreatDoorZa04
import Derived.Test.YtklfpkaemnhdhaaGreatDoorZa05
import Derived.Test.YtklfpkaemnhdhaaGreatDoorZa06
import Derived.Test.YtklfpkaemnhdhaaGreatDoorZa07
import Derived.Test.YtklfpkaemnhdhaaGreatDoorZa08
import Derived.BigQuiet
import Derived.Deep.AppendLies
import Derived.Deep.QuietTactic
import Derived.Deep.RegionHeld3
import Derived.Deep.Slices
set_option linter.unusedVariables false
set_option linter.unusedSimpArgs false
set_option maxRecDepth 100000
namespace Go.Proofs.YtklfpkaemnhdhaaGreatDoor.Asc
section
open Go.RowKit
/-- the lengths of the first k -/
def lenT (L : List ByteArray) (k : Nat) : Nat := ((L.take k).map (·.size)).sum
theorem lenT_next {L : List ByteArray} {k : Nat} (h : k < L.length) : lenT L (k + 1) = lenT L k + L[k].size := by
  unfold lenT; rw [List.take_add_one, List.getElem?_eq_getElem h, Option.toList_some, List.map_append, List.sum_append]; rfl
theorem lenT_le {L : List ByteArray} (hz : ∀ x ∈ L, x.size ≤ 65536) : ∀ k, lenT L k ≤ k * 65536
  | 0 => by simp [lenT]
  | k + 1 => by
    have ih := lenT_le hz k
    by_cases h : k < L.length
    · rw [lenT_next h]; have := hz L[k] (List.getElem_mem h); omega
    · have e : lenT L (k + 1) = lenT L k := by unfold lenT; rw [List.take_of_length_le (by omega), List.take_of_length_le (by omega)]
      omega
theorem joinC_len {ms : List (List UInt8)} (hz : ∀ x ∈ ms, x.length ≤ 65536) : ∀ k, (joinC (ms.take k)).length ≤ k * 65540
  | 0 => by simp [joinC]
  | k + 1 => by
    have ih := joinC_len hz k
    by_cases h : k < ms.length
    · have := hz ms[k] (List.getElem_mem h)
      rw [joinC_more h]
      split
      · omega
      · simp only [List.length_append, List.length_cons, List.length_nil]; omega
    · have e : ms.take (k + 1) = ms.take k := by rw [List.take_of_length_le (by omega), List.take_of_length_le (by omega)]
      rw [e]
      exact Nat.le_trans ih (Nat.mul_le_mul_right _ (Nat.le_succ k))
theorem joinC_two {a b : List UInt8} {r : List (List UInt8)} : joinC (a :: b :: r) ≠ [] := by
  show a ++ [44, 32] ++ joinC (b :: r) ≠ []
  simp
theorem Join0_any (a : Option Addr) (cap : Nat) (w : World) :
    Calls Tryz.prog 71 #[.slice a 0 cap, .string ⟨#[44, 32]⟩] w fun e w' => e = .returned (.string ⟨#[]⟩) ∧ w = w' := by
  go_enter Tryz.func71, Tryz.ntmps71
  go_wp2
  go_ret
  exact ⟨rfl, rfl⟩
theorem Join1_any (q off cap : Nat) (x : ByteArray) (w : World) (c0 : w.cell? ⟨q, off, none⟩ = some (.string x)) :
    Calls Tryz.prog 71 #[.slice (some ⟨q, off, none⟩) 1 cap, .string ⟨#[44, 32]⟩] w fun e w' => e = .returned (.string x) ∧ w = w' := by
  go_enter Tryz.func71, Tryz.ntmps71
  go_wp2
  go_ret
  exact ⟨rfl, rfl⟩
def Jn1 (L : List ByteArray) (n i : Value) : Prop := ∃ k : Nat, k ≤ L.length ∧ i = .int .i64 k ∧ n = .int .i64 ((2 * (L.length - 1) + lenT L k : Nat) : Int)
def Jn2 (ms : List (List UInt8)) (B : Nat) (w : World) (i : Value) (wr : World) : Prop := ∃ k : Nat, k + 1 ≤ ms.length ∧ i = .int .i64 k ∧ Box (Bld wr B B (joinC (ms.take (k + 1)))) ∧ Box (Below B w wr)
set_option maxHeartbeats 2000000 in
theorem JoinN_any (q off cap : Nat) (L : List ByteArray) (w : World) (h2 : 2 ≤ L.length) (hl : L.length ≤ 65536) (hcap : L.length ≤ cap) (hz : Box (∀ x ∈ L, x.size ≤ 65536)) (hF : Box (Ss w (some ⟨q, off, none⟩) L)) :
    Calls Tryz.prog 71 #[.slice (some ⟨q, off, none⟩) L.length cap, .string ⟨#[44, 32]⟩] w fun e w' => e = .returned (.string (joinB L)) ∧ Below w.heap.size w w' := by
  have hdv : ¬ (9223372036854775807 / ((L.length : Int) - 1) ≤ 2) := by
    have : 3 ≤ 9223372036854775807 / ((L.length : Int) - 1) := by
      rw [Int.le_ediv_iff_mul_le (by omega)]; omega
    omega
  have hne0 : ((L.length : Int) == 0) = false := beq_eq_false_iff_ne.2 (by omega)
  have hne1 : ((L.length : Int) == 1) = false := beq_eq_false_iff_ne.2 (by omega)
  go_enter Tryz.func71, Tryz.ntmps71
  go_wp2_with fail
  go_loop [5, 41] (fun n i => Jn1 L n i) (fun _ i => L.length - (intOf i).toNat)
  case atStart => exact ⟨0, Nat.zero_le _, rfl, by unfold lenT; simp; omega⟩
  case round =>
    obtain ⟨k, hk, rfl, rfl⟩ := hrel
    have hlz := lenT_le hz.out k
    by_cases hlt : k < L.length
    · obtain ⟨q', off', e, c0⟩ := hF.out k hlt
      cases e
      have hx := hz.out L[k] (List.getElem_mem hlt)
      have HN := box (lenT_next hlt)
      obtain ⟨A, hA⟩ : ∃ A, lenT L k = A := ⟨_, rfl⟩
      have HA := box hA
      rw [hA] at hlz ⊢
      clear hA
      go_wp2
      go_round
      case rel => exact ⟨k + 1, by omega, by go_num, by rw [HN.out, HA.out]; go_num⟩
      case measure => simp [intOf]; omega
    · obtain rfl : k = L.length := by omega
      obtain ⟨n, hn⟩ : ∃ n, 2 * (L.length - 1) + lenT L L.length = n := ⟨_, rfl⟩
      have hn8 : n ≤ 281474976710656 := by omega
      rw [hn]
      clear hn hlz
      obtain ⟨ms, hms⟩ : ∃ ms, (L.map fun x => x.data.toList) = ms := ⟨_, rfl⟩
      have HJ : Box (joinB L = bs (joinC ms)) := box (by unfold joinB; rw [hms])
      have hml : ms.length = L.length := by rw [← hms, List.length_map]
      have HME : Box (∀ k (h : k < L.length), ms[k]'(by omega) = L[k].data.toList) := box (fun k h => by simp only [← hms, List.getElem_map])
      have HML : Box (∀ x ∈ ms, x.length ≤ 65536) := box (fun x hx => by
        rw [← hms] at hx
        obtain ⟨y, hy, rfl⟩ := List.mem_map.mp hx
        have := hz.out y hy
        simpa using this)
      clear hms
      have hq : q < w.heap.size := by
        obtain ⟨q', off', e, c0⟩ := hF.out 0 (by omega)
        cases e
        exact cell_lt c0
      go_wp2_with fail
      refine (Grow_new w.heap.size w.heap.size n _ (Nat.le_refl _) (heap_alloc_new w _) (by simp) hn8).mono ?_; rintro e w1 ⟨rfl, hA1, hb1⟩
      have A1 : Box (Bld w1 w.heap.size w.heap.size []) := box (.inr hA1)
      have B1 := box ((below_new w _).trans hb1)
      have hs1 := B1.out.size
      clear hA1 hb1
      have hl0 : 0 < L.length := by omega
      obtain ⟨q', off', e, c0⟩ := (hF.out.below B1.out) 0 hl0
      cases e
      rw [Nat.add_zero] at c0
      have hx0 := hz.out L[0] (List.getElem_mem hl0)
      go_wp2_with fail
      refine (WriteString_any w.heap.size w.heap.size [] L[0] _ A1 (by rw [List.length_nil]; omega) hs1).mono ?_; rintro e w2 ⟨rfl, hA2, hb2⟩
      have A2 : Box (Bld w2 w.heap.size w.heap.size (joinC (ms.take 1))) := box (.inr (by
        rw [joinC_more (k := 0) (by omega), if_pos rfl, HME.out 0 hl0]; exact hA2))
      have B2 := box (B1.out.trans hb2)
      clear hA2 hb2 c0
      go_wp2_with fail
      go_loopw [65] (fun i wr => Jn2 ms w.heap.size w i wr) (fun i _ => L.length - (intOf i).toNat)
      case atStart => exact ⟨0, by omega, rfl, A2, B2⟩
      case round =>
        obtain ⟨k, hk, rfl, A3, B3⟩ := hrel
        have hs3 := B3.out.size
        have hjl := joinC_len HML.out (k + 1)
        by_cases hlt : k + 1 < L.length
        · obtain ⟨q', off', e, c0⟩ := (hF.out.below B3.out) (k + 1) hlt
          cases e
          rw [show off + (k + 1) = off + 1 + k from by omega] at c0
          have hxk := hz.out L[k + 1] (List.getElem_mem hlt)
          go_wp2_with fail
          refine (WriteString_any w.heap.size w.heap.size _ ⟨#[44, 32]⟩ _ A3 (by show _ + 2 ≤ _; omega) hs3).mono ?_; rintro e w4 ⟨rfl, hA4, hb4⟩
          have A4 : Box (Bld w4 w.heap.size w.heap.size (joinC (ms.take (k + 1)) ++ [44, 32])) := box (.inr hA4)
          have B4 := box (B3.out.trans hb4)
          have hs4 := B4.out.size
          clear hA4 hb4
          go_wp2_with fail
          refine (WriteString_any w.heap.size w.heap.size _ L[k + 1] _ A4 (by rw [List.length_append]; show _ + 2 + _ ≤ _; omega) hs4).mono ?_; rintro e w5 ⟨rfl, hA5, hb5⟩
          have A5 : Box (Bld w5 w.heap.size w.heap.size (joinC (ms.take (k + 1 + 1)))) := box (.inr (by
            rw [joinC_more (k := k + 1) (by omega), if_neg (by omega), HME.out (k + 1) hlt]; exact hA5))
          have B5 := box (B4.out.trans hb5)
          clear hA5 hb5 c0
          go_wp2
          go_roundw
          case rel => exact ⟨k + 1, by omega, by go_num, A5, B5⟩
          case measure => simp [intOf]; omega
        · have hfull : ms.take (k + 1) = ms := List.take_of_length_le (by omega)
          rw [hfull] at A3
          have hne : joinC ms ≠ [] := by
            match ms, hml, h2 with
            | [], e, _ => simp at e; omega
            | [a], e, _ => simp at e; omega
            | a :: b :: r, _, _ => exact joinC_two
          go_wp2_with fail
          refine (String_any w.heap.size w.heap.size _ _ A3 hne).mono ?_; rintro e w6 ⟨rfl, hb6⟩
          have B6 := box (B3.out.trans hb6)
          clear hb6
          go_wp2
          go_ret
          exact ⟨by rw [HJ.out]; rfl, B6.out⟩
end
section
open Go.RowKit
/-- texts with a space between -/
def joinSp : List (List UInt8) → List UInt8
  | [] => []
  | x :: r => x ++ r.flatMap fun y => 32 :: y
def joinSB (L : List ByteArray) : ByteArray := bs (joinSp (L.map fun x => x.data.toList))
theorem joinSp_more {V : List (List UInt8)} {k : Nat} (h : k < V.length) : joinSp (V.take (k + 1)) = if k = 0 then V[k] else joinSp (V.take k) ++ [32] ++ V[k] := by
  cases V with
  | nil => simp at h
  | cons x r =>
    cases k with
    | zero => simp [joinSp]
    | succ k =>
      have hk : k < r.length := by simpa using h
      rw [if_neg (by omega), List.take_succ_cons, List.take_succ_cons, List.getElem_cons_succ]
      show x ++ (r.take (k + 1)).flatMap _ = (x ++ (r.take k).flatMap _ ++ [32]) ++ r[k]
      rw [take_next hk, List.flatMap_append]
      simp
theorem joinW_sp (V : List (List UInt8)) : joinW V = joinSp (V.map wordW) := by
  cases V with
  | nil => rfl
  | cons x r =>
    show wordW x ++ r.flatMap (fun y => 32 :: wordW y) = wordW x ++ (r.map wordW).flatMap (fun y => 32 :: y)
    rw [List.flatMap_map]
theorem joinSp_len {ms : List (List UInt8)} (hz : ∀ x ∈ ms, x.length ≤ 65536) : ∀ k, (joinSp (ms.take k)).length ≤ k * 65540
  | 0 => by simp [joinSp]
  | k + 1 => by
    have ih := joinSp_len hz k
    by_cases h : k < ms.length
    · have := hz ms[k] (List.getElem_mem h)
      rw [joinSp_more h]
      split
      · omega
      · simp only [List.length_append, List.length_cons, List.length_nil]; omega
    · have e : ms.take (k + 1) = ms.take k := by rw [List.take_of_length_le (by omega), List.take_of_length_le (by omega)]
      rw [e]
      exact Nat.le_trans ih (Nat.mul_le_mul_right _ (Nat.le_succ k))
theorem joinSp_two {a b : List UInt8} {r : List (List UInt8)} : joinSp (a :: b :: r) ≠ [] := by
  unfold joinSp
  simp
theorem Jsp0_any (a : Option Addr) (cap : Nat) (w : World) :
    Calls Tryz.prog 71 #[.slice a 0 cap, .string ⟨#[32]⟩] w fun e w' => e = .returned (.string ⟨#[]⟩) ∧ w = w' := by
  go_enter Tryz.func71, Tryz.ntmps71
  go_wp2
  go_ret
  exact ⟨rfl, rfl⟩
theorem Jsp1_any (q off cap : Nat) (x : ByteArray) (w : World) (c0 : w.cell? ⟨q, off, none⟩ = some (.string x)) :
    Calls Tryz.prog 71 #[.slice (some ⟨q, off, none⟩) 1 cap, .string ⟨#[32]⟩] w fun e w' => e = .returned (.string x) ∧ w = w' := by
  go_enter Tryz.func71, Tryz.ntmps71
  go_wp2
  go_ret
  exact ⟨rfl, rfl⟩
def Js1 (L : List ByteArray) (n i : Value) : Prop := ∃ k : Nat, k ≤ L.length ∧ i = .int .i64 k ∧ n = .int .i64 ((L.length - 1 + lenT L k : Nat) : Int)
def Js2 (ms : List (List UInt8)) (B : Nat) (w : World) (i : Value) (wr : World) : Prop := ∃ k : Nat, k + 1 ≤ ms.length ∧ i = .int .i64 k ∧ Box (Bld wr B B (joinSp (ms.take (k + 1)))) ∧ Box (Below B w wr)
set_option maxHeartbeats 2000000 in
theorem JspN_any (q off cap : Nat) (L : List ByteArray) (w : World) (h2 : 2 ≤ L.length) (hl : L.length ≤ 65536) (hcap : L.length ≤ cap) (hz : Box (∀ x ∈ L, x.size ≤ 65536)) (hF : Box (Ss w (some ⟨q, off, none⟩) L)) :
    Calls Tryz.prog 71 #[.slice (some ⟨q, off, none⟩) L.length cap, .string ⟨#[32]⟩] w fun e w' => e = .returned (.string (joinSB L)) ∧ Below w.heap.size w w' := by
  have hdv : ¬ (9223372036854775807 / ((L.length : Int) - 1) ≤ 1) := by
    have : 3 ≤ 9223372036854775807 / ((L.length : Int) - 1) := by
      rw [Int.le_ediv_iff_mul_le (by omega)]; omega
    omega
  have hne0 : ((L.length : Int) == 0) = false := beq_eq_false_iff_ne.2 (by omega)
  have hne1 : ((L.length : Int) == 1) = false := beq_eq_false_iff_ne.2 (by omega)
  go_enter Tryz.func71, Tryz.ntmps71
  go_wp2_with fail
  go_loop [5, 41] (fun n i => Js1 L n i) (fun _ i => L.length - (intOf i).toNat)
  case atStart => exact ⟨0, Nat.zero_le _, rfl, by unfold lenT; simp; omega⟩
  case round =>
    obtain ⟨k, hk, rfl, rfl⟩ := hrel
    have hlz := lenT_le hz.out k
    by_cases hlt : k < L.length
    · obtain ⟨q', off', e, c0⟩ := hF.out k hlt
      cases e
      have hx := hz.out L[k] (List.getElem_mem hlt)
      have HN := box (lenT_next hlt)
      obtain ⟨A, hA⟩ : ∃ A, lenT L k = A := ⟨_, rfl⟩
      have HA := box hA
      rw [hA] at hlz ⊢
      clear hA
      go_wp2
      go_round
      case rel => exact ⟨k + 1, by omega, by go_num, by rw [HN.out, HA.out]; go_num⟩
      case measure => simp [intOf]; omega
    · obtain rfl : k = L.length := by omega
      obtain ⟨n, hn⟩ : ∃ n, L.length - 1 + lenT L L.length = n := ⟨_, rfl⟩
      have hn8 : n ≤ 281474976710656 := by omega
      rw [hn]
      clear hn hlz
      obtain ⟨ms, hms⟩ : ∃ ms, (L.map fun x => x.data.toList) = ms := ⟨_, rfl⟩
      have HJ : Box (joinSB L = bs (joinSp ms)) := box (by unfold joinSB; rw [hms])
      have hml : ms.length = L.length := by rw [← hms, List.length_map]
      have HME : Box (∀ k (h : k < L.length), ms[k]'(by omega) = L[k].data.toList) := box (fun k h => by simp only [← hms, List.getElem_map])
      have HML : Box (∀ x ∈ ms, x.length ≤ 65536) := box (fun x hx => by
        rw [← hms] at hx
        obtain ⟨y, hy, rfl⟩ := List.mem_map.mp hx
        have := hz.out y hy
        simpa using this)
      clear hms
      have hq : q < w.heap.size := by
        obtain ⟨q', off', e, c0⟩ := hF.out 0 (by omega)
        cases e
        exact cell_lt c0
      go_wp2_with fail
      refine (Grow_new w.heap.size w.heap.size n _ (Nat.le_refl _) (heap_alloc_new w _) (by simp) hn8).mono ?_; rintro e w1 ⟨rfl, hA1, hb1⟩
      have A1 : Box (Bld w1 w.heap.size w.heap.size []) := box (.inr hA1)
      have B1 := box ((below_new w _).trans hb1)
      have hs1 := B1.out.size
      clear hA1 hb1
      have hl0 : 0 < L.length := by omega
      obtain ⟨q', off', e, c0⟩ := (hF.out.below B1.out) 0 hl0
      cases e
      rw [Nat.add_zero] at c0
      have hx0 := hz.out L[0] (List.getElem_mem hl0)
      go_wp2_with fail
      refine (WriteString_any w.heap.size w.heap.size [] L[0] _ A1 (by rw [List.length_nil]; omega) hs1).mono ?_; rintro e w2 ⟨rfl, hA2, hb2⟩
      have A2 : Box (Bld w2 w.heap.size w.heap.size (joinSp (ms.take 1))) := box (.inr (by
        rw [joinSp_more (k := 0) (by omega), if_pos rfl, HME.out 0 hl0]; exact hA2))
      have B2 := box (B1.out.trans hb2)
      clear hA2 hb2 c0
      go_wp2_with fail
      go_loopw [65] (fun i wr => Js2 ms w.heap.size w i wr) (fun i _ => L.length - (intOf i).toNat)
      case atStart => exact ⟨0, by omega, rfl, A2, B2⟩
      case round =>
        obtain ⟨k, hk, rfl, A3, B3⟩ := hrel
        have hs3 := B3.out.size
        have hjl := joinSp_len HML.out (k + 1)
        by_cases hlt : k + 1 < L.length
        · obtain ⟨q', off', e, c0⟩ := (hF.out.below B3.out) (k + 1) hlt
          cases e
          rw [show off + (k + 1) = off + 1 + k from by omega] at c0
          have hxk := hz.out L[k + 1] (List.getElem_mem hlt)
          go_wp2_with fail
          refine (WriteString_any w.heap.size w.heap.size _ ⟨#[32]⟩ _ A3 (by show _ + 1 ≤ _; omega) hs3).mono ?_; rintro e w4 ⟨rfl, hA4, hb4⟩
          have A4 : Box (Bld w4 w.heap.size w.heap.size (joinSp (ms.take (k + 1)) ++ [32])) := box (.inr hA4)
          have B4 := box (B3.out.trans hb4)
          have hs4 := B4.out.size
          clear hA4 hb4
          go_wp2_with fail
          refine (WriteString_any w.heap.size w.heap.size _ L[k + 1] _ A4 (by rw [List.length_append]; show _ + 1 + _ ≤ _; omega) hs4).mono ?_; rintro e w5 ⟨rfl, hA5, hb5⟩
          have A5 : Box (Bld w5 w.heap.size w.heap.size (joinSp (ms.take (k + 1 + 1)))) := box (.inr (by
            rw [joinSp_more (k := k + 1) (by omega), if_neg (by omega), HME.out (k + 1) hlt]; exact hA5))
          have B5 := box (B4.out.trans hb5)
          clear hA5 hb5 c0
          go_wp2
          go_roundw
          case rel => exact ⟨k + 1, by omega, by go_num, A5, B5⟩
          case measure => simp [intOf]; omega
        · have hfull : ms.take (k + 1) = ms := List.take_of_length_le (by omega)
          rw [hfull] at A3
          have hne : joinSp ms ≠ [] := by
            match ms, hml, h2 with
            | [], e, _ => simp at e; omega
            | [a], e, _ => simp at e; omega
            | a :: b :: r, _, _ => exact joinSp_two
          go_wp2_with fail
          refine (String_any w.heap.size w.heap.size _ _ A3 hne).mono ?_; rintro e w6 ⟨rfl, hb6⟩
          have B6 := box (B3.out.trans hb6)
          clear hb6
          go_wp2
          go_ret
          exact ⟨by rw [HJ.out]; rfl, B6.out⟩
end
section
open Go.RowKit Go.ChangeShapes Go.WideShapes Go.Deep
/-- a value that is the list of strings V -/
def SsV (w : World) (v : Value) (V : List ByteArray) : Prop := ∃ b c, v = .slice b V.length c ∧ Ss w b V ∧ V.length ≤ c
theorem SsV.below {w w' : World} {v : Value} {V : List ByteArray} (h : SsV w v V) (hb : Below w.heap.size w w') : SsV w' v V := by
  obtain ⟨b, c, e, hs, hc⟩ := h
  exact ⟨b, c, e, hs.below hb, hc⟩
def Axs (w : World) (a : Option Addr) (L : List AX) : Prop :=
  ∀ i (h : i < L.length), ∃ g off v, a = some ⟨g, off, none⟩ ∧ w.cell? ⟨g, off + i * 2, none⟩ = some (.string L[i].1) ∧ w.cell? ⟨g, off + i * 2 + 1, none⟩ = some v ∧ SsV w v L[i].2
theorem Axs.below {w w' : World} {a : Option Addr} {L : List AX} (h : Axs w a L) (hb : Below w.heap.size w w') : Axs w' a L := fun i hi => by
  obtain ⟨g, off, v, e, c0, c1, hs⟩ := h i hi
  exact ⟨g, off, v, e, (hb.cell (cell_lt c0)).trans c0, (hb.cell (cell_lt c1)).trans c1, hs.below hb⟩
theorem open_strs {H : Type} {enc : TypeId × Value → H} {W : World} {base : Nat} {sp : Nat → Bool} {held : Bool} {n : Nat} {v : Value} {x : DataW H × List MemPlace}
    (hf : DataW.trod enc Tryz.prog W base sp held n 29 [v] = some x) : ∃ V, SsV W v V ∧ V.length ≤ maxLen := by
  rcases open_slice1 Tryz.underlying29 (by kernel_rfl) hf with ⟨hcs, hx⟩ | ⟨a, len', cap', m, n, V, D, Pl, hcs, _, hl, hm, hmm, hx, hi⟩
  · simp at hcs
    subst hcs
    exact ⟨[], ⟨none, 0, rfl, fun i hi => absurd hi (by simp), Nat.le_refl _⟩, Nat.zero_le _⟩
  · simp at hcs
    subst hcs
    have hlm : len' ≤ m := by rw [hmm]; split <;> omega
    refine ⟨(List.range len').map fun i => strOf (V i), ⟨some a, cap', by simp, fun i hi2 => ?_, by simp; omega⟩, by simp; omega⟩
    have hil : i < len' := by simpa using hi2
    obtain ⟨g, off, spot⟩ := a
    obtain ⟨z0, _⟩ := hi 0 (by omega)
    have hspot : spot = none := by simpa [Addr.add] using World.cell?_spot z0
    subst hspot
    obtain ⟨k0, t0⟩ := hi i (by omega)
    obtain ⟨s0, e0, _, _⟩ := DataW.trod_string Tryz.underlying9 t0
    rw [add_plain] at k0
    simp at e0
    refine ⟨g, off, rfl, ?_⟩
    rw [k0, e0]; simp [strOf, e0]
theorem open_axes {H : Type} {enc : TypeId × Value → H} {W : World} {base : Nat} {sp : Nat → Bool} {held : Bool} {r : Reach} {b0 : Nat} {v : Value} {d : DataW H} {p : List MemPlace}
    (hval : Value.okWide Tryz.prog W r b0 22 v) (h : DataW.Trod enc Tryz.prog W base sp held 22 v d p) :
    ∃ (a : Option Addr) (cap : Nat) (L : List AX), v = .slice a L.length cap ∧ L.length ≤ maxLen ∧ (Axs W a L ∧ ∀ i (hi : i < L.length), L[i].2.length ≤ maxLen) ∧ L.length ≤ cap := by
  obtain ⟨a0, len, cap, rfl⟩ := okWide_slice Tryz.underlying22 hval
  obtain ⟨fuel, hf⟩ := h
  rcases open_slice_pairs Tryz.underlying22 Tryz.underlying39 (by kernel_rfl) rfl rfl (by kernel_rfl) (by kernel_rfl) hf with ⟨hcs, hx⟩ | ⟨a, len', cap', m, n, V0, V1, D0, D1, P0, P1, hcs, _, hl, hm, hmm, hx, hi⟩
  · simp [Value.cells] at hcs
    obtain ⟨rfl, rfl, rfl⟩ := hcs
    exact ⟨none, 0, [], rfl, Nat.zero_le _, ⟨fun i hi => absurd hi (by simp), fun i hi => absurd hi (by simp)⟩, Nat.le_refl _⟩
  · simp [Value.cells] at hcs
    obtain ⟨rfl, rfl, rfl⟩ := hcs
    have hlm : len ≤ m := by rw [hmm]; split <;> omega
    obtain ⟨g, off, spot⟩ := a
    obtain ⟨L, hL, hP⟩ := choose_list (P := fun i (x : AX) => W.cell? ((⟨g, off, spot⟩ : Addr).add (i * 2)) = some (.string x.1) ∧ ∃ v, W.cell? ((⟨g, off, spot⟩ : Addr).add (i * 2 + 1)) = some v ∧ SsV W v x.2 ∧ x.2.length ≤ maxLen) len (fun i hil => by
      obtain ⟨k0, k1, t0, t1⟩ := hi i (by omega)
      obtain ⟨s0, e0, _, _⟩ := DataW.trod_string Tryz.underlying9 t0
      obtain ⟨V, hV, hVm⟩ := open_strs t1
      simp at e0
      exact ⟨(s0, V), by rw [k0, e0], V1 i, k1, hV, hVm⟩)
    refine ⟨some ⟨g, off, spot⟩, cap, L, by rw [hL], by rw [hL]; omega, ⟨fun i hi2 => ?_, fun i hi2 => by obtain ⟨_, v, _, _, p3⟩ := hP i hi2; exact p3⟩, by rw [hL]; omega⟩
    obtain ⟨p0, v, p1, p2, _⟩ := hP i hi2
    obtain ⟨z0, _⟩ := hi 0 (by omega)
    have hspot : spot = none := by simpa [Addr.add] using World.cell?_spot z0
    subst hspot
    rw [add_plain] at p0 p1
    exact ⟨g, off, v, rfl, p0, by rw [← Nat.add_assoc] at p1; exact p1, p2⟩
set_option maxHeartbeats 1000000 in
theorem keepAxes_any (a : Option Addr) (cap : Nat) (L : List AX) (w : World) (hl : L.length ≤ maxLen) (hF : Box (Axs w a L)) (hS : Box (∀ i (hi : i < L.length), L[i].2.length ≤ maxLen)) :
    Calls Tryz.prog 10 #[.slice a L.length cap] w fun e w' => e = .returned (.bool (keepA L)) ∧ w = w' := by
  unfold maxLen at hl
  go_enter Tryz.func10, Tryz.ntmps10
  go_wp2
  go_loop [3] (fun i => ∃ k : Nat, k ≤ L.length ∧ k ≤ 7 ∧ i = .int .i64 k ∧ (L.take k).all okA = true) (fun i => 7 - (intOf i).toNat)
  case atStart => exact ⟨0, Nat.zero_le _, Nat.zero_le _, rfl, rfl⟩
  case round =>
    obtain ⟨k, hk, hk9, rfl, hall⟩ := hrel
    have HA := box hall
    clear hall
    by_cases hlt : k < L.length
    · by_cases h9 : k < 7
      · obtain ⟨g, off, v, rfl, c0, c1, b, c, rfl, hss, hcc⟩ := hF.out k hlt
        have SS := box hss
        have SM := box (hS.out k hlt)
        clear hss hcc
        by_cases e1 : L[k].1.size ≤ 100
        · have ei : ¬ (100 : Int) < (L[k].1.size : Int) := by omega
          rcases e2 : keepS L[k].2 with _ | _
          · have E2 := box e2
            have HN := box (keepA_bad hlt (by unfold okA; rw [e2, Bool.and_false]))
            clear e1 e2
            go_wp2_with fail
            refine (keepStrings_any b c _ _ SM.out SS).mono ?_; rintro e w1 ⟨rfl, rfl⟩; rw [E2.out]
            go_wp2
            go_ret
            exact ⟨ret_bool HN.out.symm, rfl⟩
          · have E2 := box e2
            have HN := box (keepA_more hlt HA.out e1 e2)
            clear e1 e2
            go_wp2_with fail
            refine (keepStrings_any b c _ _ SM.out SS).mono ?_; rintro e w1 ⟨rfl, rfl⟩; rw [E2.out]
            go_wp2
            go_round
            case rel => exact ⟨k + 1, by omega, by omega, by go_num, HN.out⟩
            case measure => simp [intOf]; omega
        · have ei : (100 : Int) < (L[k].1.size : Int) := by omega
          have HN := box (keepA_bad hlt (by unfold okA; rw [decide_eq_false e1]; rfl))
          clear e1
          go_wp2
          go_ret
          exact ⟨ret_bool HN.out.symm, rfl⟩
      · go_wp2
        go_ret
        exact ⟨ret_bool (by rw [keepA_long (by omega)]; simp; omega), rfl⟩
    · have e : k = L.length := by omega
      have E := box e
      clear e
      by_cases h8 : L.length ≤ 6
      · go_wp2
        go_ret
        refine ⟨ret_bool ?_, rfl⟩
        have ha := HA.out
        rw [E.out] at ha
        rw [keepA_end ha h8]
        simp; omega
      · go_wp2
        go_ret
        exact ⟨ret_bool (by rw [keepA_long h8]; simp; omega), rfl⟩
end
section
open Go.RowKit
theorem rKind15_is {n : ByteArray} {k : Int} {w : World} (hn : n.size ≤ 4294967296) (h : Box (kindN n = k)) :
    Calls Tryz.prog 27 #[.string n] w fun e w' => e = .returned (.int .i64 k) ∧ Below w.heap.size w w' :=
  (rKind_any n w hn).mono fun e w' ⟨h1, h2⟩ => ⟨by rw [h1, h.out], h2⟩
theorem kind_five (n : ByteArray) : kindN n = 1 ∨ kindN n = 2 ∨ kindN n = 3 ∨ kindN n = 4 ∨ kindN n = 0 := by
  unfold kindN; repeat' split
  all_goals simp
theorem rSame15_any (n x y : ByteArray) (w : World) (hn : n.size ≤ 65000) (hx : x.size ≤ 65000) (hy : y.size ≤ 65000) :
    Calls Tryz.prog 92 #[.string n, .string x, .string y] w fun e w' => e = .returned (.bool (sameV n x y)) ∧ Below w.heap.size w w' := by
  have hn4 : n.size ≤ 4294967296 := by omega
  have hx4 : x.size ≤ 4294967296 := by omega
  have hy4 : y.size ≤ 4294967296 := by omega
  have hx6 : x.size ≤ 65536 := by omega
  have hy6 : y.size ≤ 65536 := by omega
  have hs : ∃ q, sameV n x y = q := ⟨_, rfl⟩
  obtain ⟨q, hq⟩ := hs
  rw [hq]
  have h12 : kindN n = 1 ∨ kindN n = 2 → Box (foldL x.data.toList y.data.toList = q) := fun h => box (by rw [← hq]; unfold sameV; rw [if_pos h])
  have h34 : kindN n = 3 ∨ kindN n = 4 → Box (decide (canL (kindN n) x.data.toList = canL (kindN n) y.data.toList) = q) := fun h => box (by
    rw [← hq]; unfold sameV; rw [if_neg (by omega), if_pos h])
  have h0 : kindN n = 0 → Box (decide (x = y) = q) := fun h => box (by rw [← hq]; unfold sameV; rw [if_neg (by omega), if_neg (by omega)])
  clear hq
  rcases kind_five n with hk | hk | hk | hk | hk
  · have HK := box hk
    have HF := h12 (.inl hk)
    clear h12 h34 h0 hk
    go_enter Tryz.func92, Tryz.ntmps92
    go_wp2_with fail
    refine (rKind15_is hn4 HK).mono ?_; rintro e w1 ⟨rfl, hb1⟩
    have B1 := box hb1
    clear hb1
    go_wp2_with fail
    refine (rFold13_is hx4 hy4 HF).mono ?_; rintro e w2 ⟨rfl, hb2⟩
    have B2 := box (B1.out.trans (hb2.mono B1.out.size))
    clear hb2
    go_wp2
    go_ret
    exact ⟨rfl, B2.out⟩
  · have HK := box hk
    have HF := h12 (.inr hk)
    clear h12 h34 h0 hk
    go_enter Tryz.func92, Tryz.ntmps92
    go_wp2_with fail
    refine (rKind15_is hn4 HK).mono ?_; rintro e w1 ⟨rfl, hb1⟩
    have B1 := box hb1
    clear hb1
    go_wp2_with fail
    refine (rFold13_is hx4 hy4 HF).mono ?_; rintro e w2 ⟨rfl, hb2⟩
    have B2 := box (B1.out.trans (hb2.mono B1.out.size))
    clear hb2
    go_wp2
    go_ret
    exact ⟨rfl, B2.out⟩
  · have HK := box hk
    have HD := h34 (.inl hk)
    rw [hk] at HD
    obtain ⟨cx, hcx⟩ : ∃ c, bs (canL 3 x.data.toList) = c := ⟨_, rfl⟩
    obtain ⟨cy, hcy⟩ : ∃ c, bs (canL 3 y.data.toList) = c := ⟨_, rfl⟩
    have HX := box hcx
    have HY := box hcy
    have HQ : Box ((cx.toList == cy.toList) = q) := box (by
      rw [← HD.out, ← hcx, ← hcy, toList_bs, toList_bs]
      by_cases e : canL 3 x.data.toList = canL 3 y.data.toList
      · rw [e]; simp
      · rw [decide_eq_false e]; exact beq_eq_false_iff_ne.2 e)
    have h3 : InI64 3 := by unfold InI64; omega
    clear h12 h34 h0 hk hcx hcy
    go_enter Tryz.func92, Tryz.ntmps92
    go_wp2_with fail
    refine (rKind15_is hn4 HK).mono ?_; rintro e w1 ⟨rfl, hb1⟩
    have B1 := box hb1
    clear hb1
    go_wp2_with fail
    refine (rCan_is h3 hx6 HX).mono ?_; rintro e w2 ⟨rfl, hb2⟩
    have B2 := box (B1.out.trans (hb2.mono B1.out.size))
    clear hb2
    go_wp2_with fail
    refine (rCan_is h3 hy6 HY).mono ?_; rintro e w3 ⟨rfl, hb3⟩
    have B3 := box (B2.out.trans (hb3.mono B2.out.size))
    clear hb3
    go_wp2
    go_ret
    exact ⟨by rw [HQ.out]; rfl, B3.out⟩
  · have HK := box hk
    have HD := h34 (.inr hk)
    rw [hk] at HD
    obtain ⟨cx, hcx⟩ : ∃ c, bs (canL 4 x.data.toList) = c := ⟨_, rfl⟩
    obtain ⟨cy, hcy⟩ : ∃ c, bs (canL 4 y.data.toList) = c := ⟨_, rfl⟩
    have HX := box hcx
    have HY := box hcy
    have HQ : Box ((cx.toList == cy.toList) = q) := box (by
      rw [← HD.out, ← hcx, ← hcy, toList_bs, toList_bs]
      by_cases e : canL 4 x.data.toList = canL 4 y.data.toList
      · rw [e]; simp
      · rw [decide_eq_false e]; exact beq_eq_false_iff_ne.2 e)
    have h3 : InI64 4 := by unfold InI64; omega
    clear h12 h34 h0 hk hcx hcy
    go_enter Tryz.func92, Tryz.ntmps92
    go_wp2_with fail
    refine (rKind15_is hn4 HK).mono ?_; rintro e w1 ⟨rfl, hb1⟩
    have B1 := box hb1
    clear hb1
    go_wp2_with fail
    refine (rCan_is h3 hx6 HX).mono ?_; rintro e w2 ⟨rfl, hb2⟩
    have B2 := box (B1.out.trans (hb2.mono B1.out.size))
    clear hb2
    go_wp2_with fail
    refine (rCan_is h3 hy6 HY).mono ?_; rintro e w3 ⟨rfl, hb3⟩
    have B3 := box (B2.out.trans (hb3.mono B2.out.size))
    clear hb3
    go_wp2
    go_ret
    exact ⟨by rw [HQ.out]; rfl, B3.out⟩
  · have HK := box hk
    have HD := h0 hk
    have HQ : Box ((x.toList == y.toList) = q) := box (by
      rw [← HD.out, toList_data, toList_data]
      by_cases e : x = y
      · rw [e]; simp
      · rw [decide_eq_false e]
        refine beq_eq_false_iff_ne.2 (fun h => e ?_)
        rw [bs_of x, bs_of y, h])
    clear h12 h34 h0 hk
    go_enter Tryz.func92, Tryz.ntmps92
    go_wp2_with fail
    refine (rKind15_is hn4 HK).mono ?_; rintro e w1 ⟨rfl, hb1⟩
    have B1 := box hb1
    clear hb1
    go_wp2
    go_ret
    exact ⟨by rw [HQ.out]; rfl, B1.out⟩
end
section
open Go.RowKit
theorem range_len {s : ByteArray} {a b : ByteArray} {L : List F} (h : ofM (rangeL s.data.toList) = (a, b, L)) : L.length ≤ s.size ∧ (∀ i (hi : i < L.length), L[i].1.size ≤ s.size ∧ L[i].2.size ≤ s.size) ∧ a.size ≤ s.size ∧ b.size ≤ s.size := by
  have hz : s.data.toList.length = s.size := by simp
  cases hr : rangeL s.data.toList with
  | none =>
    rw [hr] at h
    cases h
    exact ⟨Nat.zero_le _, fun i hi => absurd hi (by simp), Nat.zero_le _, Nat.zero_le _⟩
  | some x =>
    obtain ⟨c, d, K⟩ := x
    rw [hr] at h
    cases h
    obtain ⟨_, _, h3, h4⟩ := range_facts hr
    exact ⟨by omega, fun i hi => by have := szF_at hi; omega, by omega, by omega⟩
theorem media_len {s : ByteArray} {a b : ByteArray} {L : List F} (h : ofM (mediaL s.data.toList) = (a, b, L)) : L.length ≤ s.size ∧ (∀ i (hi : i < L.length), L[i].1.size ≤ s.size ∧ L[i].2.size ≤ s.size) ∧ a.size ≤ s.size ∧ b.size ≤ s.size := by
  rw [media_cases] at h
  have no : ∀ {x : M}, ofM (none : Option M) = x → x = (a, b, L) → L.length ≤ s.size ∧ (∀ i (hi : i < L.length), L[i].1.size ≤ s.size ∧ L[i].2.size ≤ s.size) ∧ a.size ≤ s.size ∧ b.size ≤ s.size := by
    intro x h1 h2
    rw [← h1] at h2
    cases h2
    exact ⟨Nat.zero_le _, fun i hi => absurd hi (by simp), Nat.zero_le _, Nat.zero_le _⟩
  split at h
  · split at h
    · exact no rfl h
    · exact range_len h
  · exact no rfl h
end
section
open Go.RowKit
theorem ne_toList (a b : ByteArray) : (!(a.toList == b.toList)) = decide (a ≠ b) := by
  rw [toList_data, toList_data]
  by_cases e : a = b
  · rw [e]; simp
  · rw [decide_eq_true e]
    have : (a.data.toList == b.data.toList) = false := beq_eq_false_iff_ne.2 (fun h => e (by rw [bs_of a, bs_of b, h]))
    rw [this]; rfl
theorem rMedia15_is {x a b : ByteArray} {L : List F} {q : Bool} {w : World} (hx : x.size ≤ 65000) (h : Box (ofM (mediaL x.data.toList) = (a, b, L) ∧ (mediaL x.data.toList).isSome = q)) :
    Calls Tryz.prog 49 #[.string x] w fun e w' => ∃ p c, e = .returned (.tuple #[.agg #[.string a, .string b, .slice p L.length c], .bool q]) ∧ Fs w' p L ∧ Below w.heap.size w w' := by
  refine (rMedia_any x w hx).mono ?_
  rintro e w' ⟨v, rfl, hO, hb⟩
  obtain ⟨h1, h2⟩ := h.out
  rw [h1] at hO ⊢
  obtain ⟨p, c, rfl, hF, _⟩ := hO.fs
  exact ⟨p, c, by rw [h2], hF, hb⟩
theorem rText15_is {s : ByteArray} {b : Bool} {w : World} (hs : s.size ≤ maxLen) (h : Box (textL s.data.toList = b)) :
    Calls Tryz.prog 127 #[.string s] w fun e w' => e = .returned (.bool b) ∧ w = w' :=
  (rText_any s w hs).mono fun e w' ⟨h1, h2⟩ => ⟨by rw [h1, h.out], h2⟩
def VoRel (L : List F) (q : Bool) (g : Nat) (c0 c1 c2 : Value) (p : Option Addr) (W : World) (ok i : Value) (wr : World) : Prop :=
  ∃ j : Nat, i = .int .i64 j ∧ j ≤ L.length ∧ ok = .bool (q && ownP L j) ∧ Box (C3 g c0 c1 c2 wr) ∧ Box (Fs wr p L) ∧ Box (Below W.heap.size W wr)
def ViRel (L : List F) (q : Bool) (j : Nat) (g : Nat) (c0 c1 c2 : Value) (p : Option Addr) (W : World) (ok i : Value) (wr : World) : Prop :=
  ∃ m : Nat, i = .int .i64 m ∧ m ≤ j ∧ ok = .bool (q && ownP L j && newP L j m) ∧ Box (C3 g c0 c1 c2 wr) ∧ Box (Fs wr p L) ∧ Box (Below W.heap.size W wr)
set_option maxHeartbeats 4000000 in
theorem rValue1_any (n x : ByteArray) (w : World) (hn : n.size ≤ 65000) (hx : x.size ≤ 65000) (hk : Box (kindN n = 1)) :
    Calls Tryz.prog 91 #[.string n, .string x] w fun e w' => e = .returned (.bool (valueV n x)) ∧ Below w.heap.size w w' := by
  have hn4 : n.size ≤ 4294967296 := by omega
  obtain ⟨⟨ta, tb, L⟩, hM⟩ : ∃ m, ofM (mediaL x.data.toList) = m := ⟨_, rfl⟩
  obtain ⟨q, hq⟩ : ∃ q, (mediaL x.data.toList).isSome = q := ⟨_, rfl⟩
  have HM := box (And.intro hM hq)
  have HV : Box (valueV n x = (q && ownP L L.length)) := box (by unfold valueV; rw [if_pos hk.out, hM, hq])
  have hL6 : L.length ≤ 65536 := by have := (media_len hM).1; omega
  clear hM hq
  go_enter Tryz.func91, Tryz.ntmps91
  go_wp2_with fail
  refine (rKind15_is hn4 hk).mono ?_; rintro e w1 ⟨rfl, hb1⟩
  have B1 := box hb1
  clear hb1
  go_wp2_with fail
  refine (rMedia15_is hx HM).mono ?_; rintro e w2 ⟨p, c, rfl, hF, hb2⟩
  have B2 := box (B1.out.trans (hb2.mono B1.out.size))
  have F2 := box hF
  have hs2 := B2.out.size
  clear hb2 hF
  have hC := box (C3.new (.string ta) (.string tb) (.slice p L.length c) w2 77)
  have hFa := box (F2.out.below (below_new w2 (.cells #[.string ta, .string tb, .slice p L.length c] 77)))
  have hBa := box (B2.out.alloc hs2 (.cells #[.string ta, .string tb, .slice p L.length c] 77))
  go_wp2_with fail
  go_loopw [6, 7, 8] (fun ok i _ wr => VoRel L q w2.heap.size (.string ta) (.string tb) (.slice p L.length c) p w ok i wr) (fun _ i _ _ => L.length - (intOf i).toNat)
  case atStart => exact ⟨0, rfl, Nat.zero_le _, by unfold ownP; simp, hC, hFa, hBa⟩
  case round =>
    obtain ⟨j, rfl, hj, rfl, C0, F0, B0⟩ := hrel
    obtain ⟨⟨r0, r1, r2⟩, _⟩ := C0.out
    by_cases hlt : j < L.length
    · have hji : (j : Int) < (L.length : Int) := by omega
      go_wp2
      go_loopw [6, 8] (fun ok i wi => ViRel L q j w2.heap.size (.string ta) (.string tb) (.slice p L.length c) p w ok i wi) (fun _ i _ => j - (intOf i).toNat)
      case atStart => exact ⟨0, rfl, Nat.zero_le _, by unfold newP; simp, C0, F0, B0⟩
      case round =>
        obtain ⟨m, rfl, hm, rfl, C1, F1, B3⟩ := hrel
        clear r0 r1 r2
        obtain ⟨⟨r0, r1, r2⟩, _⟩ := C1.out
        have hs3 := B3.out.size
        obtain ⟨b, hb⟩ : ∃ b, (q && ownP L j && newP L j m) = b := ⟨_, rfl⟩
        by_cases hmj : m < j
        · have hmi : (m : Int) < (j : Int) := by omega
          have hml : (m : Int) < (L.length : Int) := by omega
          have hN := newP_more L j m
          obtain ⟨g, off, rfl, c0, _⟩ := F1.out j hlt
          obtain ⟨g', off', e, d0, _⟩ := F1.out m (by omega)
          cases e
          have hq2 : decide (atP L j ≠ atP L m) = (!(L[j].1.toList == (L[m]'(by omega)).1.toList)) := by rw [ne_toList, atP_is hlt, atP_is (by omega : m < L.length)]
          obtain ⟨nj, hnj⟩ : ∃ s, L[j].1 = s := ⟨_, rfl⟩
          obtain ⟨nm, hnm⟩ : ∃ s, (L[m]'(by omega)).1 = s := ⟨_, rfl⟩
          rw [hnj] at c0 hq2
          rw [hnm] at d0 hq2
          rw [hq2] at hN
          have HN : Box ((q && ownP L j && newP L j (m + 1)) = (b && !(nj.toList == nm.toList))) := box (by rw [hN, ← hb, Bool.and_assoc (q && ownP L j)])
          rw [hb]
          clear hnj hnm hq2 hN hb
          rcases b with _ | _
          · clear c0 d0
            go_wp2
            go_quiet (fail)
            go_wp2
            go_roundw
            case rel => exact ⟨m + 1, by go_num, by omega, by rw [HN.out]; rfl, box (C1.out.next (below_drewN _ _)), box (F1.out.below (below_drewN _ _)), box (B3.out.trans ((below_drewN _ _).mono hs3))⟩
            case measure => simp [intOf]; omega
          · obtain ⟨t, ht⟩ : ∃ t, (!(nj.toList == nm.toList)) = t := ⟨_, rfl⟩
            rw [ht] at HN
            go_wp2
            go_quiet (fail)
            go_wp2
            go_roundw
            case rel => exact ⟨m + 1, by go_num, by omega, by rw [HN.out]; rfl, box (C1.out.next (below_drewN _ _)), box (F1.out.below (below_drewN _ _)), box (B3.out.trans ((below_drewN _ _).mono hs3))⟩
            case measure => simp [intOf]; omega
        · have hmi : ¬ (m : Int) < (j : Int) := by omega
          have hmj2 : m = j := by omega
          subst hmj2
          have hN := ownP_more L m
          obtain ⟨g, off, rfl, c0, _⟩ := F1.out m hlt
          have hq2 : decide (atP L m ≠ qName) = (!(L[m].1.toList == qName.toList)) := by rw [ne_toList, atP_is hlt]
          obtain ⟨nj, hnj⟩ : ∃ s, L[m].1 = s := ⟨_, rfl⟩
          rw [hnj] at c0 hq2
          rw [hq2] at hN
          have HN : Box ((q && ownP L (m + 1)) = (b && !(nj.toList == [113]))) := box (by
            rw [hN, ← hb, show qName.toList = [113] from by rw [toList_data]; rfl]
            cases q <;> cases ownP L m <;> cases newP L m m <;> rfl)
          rw [hb]
          clear hnj hq2 hN hb
          rcases b with _ | _
          · clear c0
            go_wp2
            go_roundw
            case rel => exact ⟨m + 1, by go_num, by omega, by rw [HN.out]; rfl, C1, F1, B3⟩
            case measure => simp [intOf]; omega
          · obtain ⟨t, ht⟩ : ∃ t, (!(nj.toList == [113])) = t := ⟨_, rfl⟩
            rw [ht] at HN
            go_wp2
            go_roundw
            case rel => exact ⟨m + 1, by go_num, by omega, by rw [HN.out]; rfl, C1, F1, B3⟩
            case measure => simp [intOf]; omega
    · have hji : ¬ (j : Int) < (L.length : Int) := by omega
      obtain rfl : j = L.length := by omega
      obtain ⟨z, hz⟩ : ∃ z, (q && ownP L L.length) = z := ⟨_, rfl⟩
      have HZ := box hz
      rw [hz]
      clear hz
      go_wp2
      go_ret
      exact ⟨by rw [HV.out, HZ.out]; rfl, B0.out⟩
set_option maxHeartbeats 2000000 in
theorem rValue_any (n x : ByteArray) (w : World) (hn : n.size ≤ 65000) (hx : x.size ≤ 65000) :
    Calls Tryz.prog 91 #[.string n, .string x] w fun e w' => e = .returned (.bool (valueV n x)) ∧ Below w.heap.size w w' := by
  have hn4 : n.size ≤ 4294967296 := by omega
  have hxm : x.size ≤ maxLen := by unfold maxLen; omega
  have HXM := box hxm
  clear hxm
  rcases kind_five n with hk | hk | hk | hk | hk
  · exact rValue1_any n x w hn hx (box hk)
  · have HK := box hk
    obtain ⟨q, hq⟩ : ∃ q, tagL x.data.toList = q := ⟨_, rfl⟩
    have HQ := box hq
    have HV : Box (valueV n x = q) := box (by unfold valueV; rw [hk, ← hq]; rfl)
    clear hk hq
    go_enter Tryz.func91, Tryz.ntmps91
    go_wp2_with fail
    refine (rKind15_is hn4 HK).mono ?_; rintro e w1 ⟨rfl, hb1⟩
    have B1 := box hb1
    clear hb1
    go_wp2_with fail
    refine (rTag_is hx HQ).mono ?_; rintro e w2 ⟨rfl, hb2⟩
    have B2 := box (B1.out.trans (hb2.mono B1.out.size))
    clear hb2
    go_wp2
    go_ret
    exact ⟨by rw [HV.out]; rfl, B2.out⟩
  · have HK := box hk
    have hstar : (!(x.toList == [42])) = decide (x ≠ star) := by rw [← ne_toList, show star.toList = [42] from by rw [toList_data]; rfl]
    obtain ⟨t, ht⟩ : ∃ t, (!(x.toList == [42])) = t := ⟨_, rfl⟩
    have HT := box (hstar.symm.trans ht)
    rcases hq : tokL x.data.toList with _ | _
    · have HQ := box hq
      have HV : Box (valueV n x = false) := box (by unfold valueV; rw [hk, hq]; rfl)
      clear hk hq hstar ht
      go_enter Tryz.func91, Tryz.ntmps91
      go_wp2_with fail
      refine (rKind15_is hn4 HK).mono ?_; rintro e w1 ⟨rfl, hb1⟩
      have B1 := box hb1
      clear hb1
      go_wp2_with fail
      refine (rTok13_is HXM.out HQ).mono ?_; rintro e w2 ⟨rfl, rfl⟩
      go_wp2
      go_ret
      exact ⟨by rw [HV.out]; rfl, B1.out⟩
    · have HQ := box hq
      have HV : Box (valueV n x = t) := box (by unfold valueV; rw [hk, hq, HT.out]; rfl)
      clear hk hq hstar
      go_enter Tryz.func91, Tryz.ntmps91
      go_wp2_with fail
      refine (rKind15_is hn4 HK).mono ?_; rintro e w1 ⟨rfl, hb1⟩
      have B1 := box hb1
      clear hb1
      go_wp2_with fail
      refine (rTok13_is HXM.out HQ).mono ?_; rintro e w2 ⟨rfl, rfl⟩
      go_wp2
      go_ret
      exact ⟨by rw [HV.out]; rfl, B1.out⟩
  · have HK := box hk
    have hstar : (!(x.toList == [42])) = decide (x ≠ star) := by rw [← ne_toList, show star.toList = [42] from by rw [toList_data]; rfl]
    obtain ⟨t, ht⟩ : ∃ t, (!(x.toList == [42])) = t := ⟨_, rfl⟩
    have HT := box (hstar.symm.trans ht)
    rcases hq : tokL x.data.toList with _ | _
    · have HQ := box hq
      have HV : Box (valueV n x = false) := box (by unfold valueV; rw [hk, hq]; rfl)
      clear hk hq hstar ht
      go_enter Tryz.func91, Tryz.ntmps91
      go_wp2_with fail
      refine (rKind15_is hn4 HK).mono ?_; rintro e w1 ⟨rfl, hb1⟩
      have B1 := box hb1
      clear hb1
      go_wp2_with fail
      refine (rTok13_is HXM.out HQ).mono ?_; rintro e w2 ⟨rfl, rfl⟩
      go_wp2
      go_ret
      exact ⟨by rw [HV.out]; rfl, B1.out⟩
    · have HQ := box hq
      have HV : Box (valueV n x = t) := box (by unfold valueV; rw [hk, hq, HT.out]; rfl)
      clear hk hq hstar
      go_enter Tryz.func91, Tryz.ntmps91
      go_wp2_with fail
      refine (rKind15_is hn4 HK).mono ?_; rintro e w1 ⟨rfl, hb1⟩
      have B1 := box hb1
      clear hb1
      go_wp2_with fail
      refine (rTok13_is HXM.out HQ).mono ?_; rintro e w2 ⟨rfl, rfl⟩
      go_wp2
      go_ret
      exact ⟨by rw [HV.out]; rfl, B1.out⟩
  · have HK := box hk
    obtain ⟨y, hy⟩ : ∃ y, bs (trimL x.data.toList) = y := ⟨_, rfl⟩
    have HY := box hy
    have HV : Box (valueV n x = (decide (1 ≤ x.size) && decide (x.size ≤ 100) && textL x.data.toList && (y.toList == x.toList))) := box (by
      unfold valueV
      rw [if_neg (by omega), if_neg (by omega), if_neg (by omega), ← hy, toList_bs, toList_data]
      congr 1
      by_cases e : trimL x.data.toList = x.data.toList
      · rw [decide_eq_true e, e]; simp
      · rw [decide_eq_false e]; exact (beq_eq_false_iff_ne.2 e).symm)
    obtain ⟨t, ht⟩ : ∃ t, (y.toList == x.toList) = t := ⟨_, rfl⟩
    rw [ht] at HV
    clear hk hy
    by_cases h1 : 1 ≤ x.size
    · have i1 : (1 : Int) ≤ (x.size : Int) := by omega
      by_cases h2 : x.size ≤ 100
      · have i2 : (x.size : Int) ≤ 100 := by omega
        rcases hq : textL x.data.toList with _ | _
        · have HQ := box hq
          have HW : Box (valueV n x = false) := box (by rw [HV.out, hq]; simp)
          clear hq ht HV
          go_enter Tryz.func91, Tryz.ntmps91
          go_wp2_with fail
          refine (rKind15_is hn4 HK).mono ?_; rintro e w1 ⟨rfl, hb1⟩
          have B1 := box hb1
          clear hb1
          go_wp2_with fail
          refine (rText15_is HXM.out HQ).mono ?_; rintro e w2 ⟨rfl, rfl⟩
          go_wp2
          go_ret
          exact ⟨by rw [HW.out]; rfl, B1.out⟩
        · have HQ := box hq
          have HW : Box (valueV n x = t) := box (by rw [HV.out, hq, decide_eq_true h1, decide_eq_true h2]; simp)
          clear hq HV
          go_enter Tryz.func91, Tryz.ntmps91
          go_wp2_with fail
          refine (rKind15_is hn4 HK).mono ?_; rintro e w1 ⟨rfl, hb1⟩
          have B1 := box hb1
          clear hb1
          go_wp2_with fail
          refine (rText15_is HXM.out HQ).mono ?_; rintro e w2 ⟨rfl, rfl⟩
          go_wp2_with fail
          refine (rTrim_is HXM.out HY).mono ?_; rintro e w3 ⟨rfl, rfl⟩
          go_wp2
          go_ret
          exact ⟨by rw [HW.out]; rfl, B1.out⟩
      · have i2 : ¬ (x.size : Int) ≤ 100 := by omega
        have HW : Box (valueV n x = false) := box (by rw [HV.out, decide_eq_false h2]; simp)
        clear ht HV
        go_enter Tryz.func91, Tryz.ntmps91
        go_wp2_with fail
        refine (rKind15_is hn4 HK).mono ?_; rintro e w1 ⟨rfl, hb1⟩
        have B1 := box hb1
        clear hb1
        go_wp2
        go_ret
        exact ⟨by rw [HW.out]; rfl, B1.out⟩
    · have i1 : ¬ (1 : Int) ≤ (x.size : Int) := by omega
      have HW : Box (valueV n x = false) := box (by rw [HV.out, decide_eq_false h1]; simp)
      clear ht HV
      go_enter Tryz.func91, Tryz.ntmps91
      go_wp2_with fail
      refine (rKind15_is hn4 HK).mono ?_; rintro e w1 ⟨rfl, hb1⟩
      have B1 := box hb1
      clear hb1
      go_wp2
      go_ret
      exact ⟨by rw [HW.out]; rfl, B1.out⟩
end
section
open Go.RowKit
theorem rSame15_is {n x y : ByteArray} {q : Bool} {w : World} (hn : n.size ≤ 65000) (hx : x.size ≤ 65000) (hy : y.size ≤ 65000) (h : Box (sameV n x y = q)) :
    Calls Tryz.prog 92 #[.string n, .string x, .string y] w fun e w' => e = .returned (.bool q) ∧ Below w.heap.size w w' :=
  (rSame15_any n x y w hn hx hy).mono fun e w' ⟨h1, h2⟩ => ⟨by rw [h1, h.out], h2⟩
theorem rValue_is {n x : ByteArray} {q : Bool} {w : World} (hn : n.size ≤ 65000) (hx : x.size ≤ 65000) (h : Box (valueV n x = q)) :
    Calls Tryz.prog 91 #[.string n, .string x] w fun e w' => e = .returned (.bool q) ∧ Below w.heap.size w w' :=
  (rValue_any n x w hn hx).mono fun e w' ⟨h1, h2⟩ => ⟨by rw [h1, h.out], h2⟩
theorem head_no1 {n : ByteArray} {V : List ByteArray} (h : tokL n.data.toList = false) : validA (n, V) = false := by unfold validA headV; simp [h]
theorem head_no2 {n : ByteArray} {V : List ByteArray} (h : ¬ lowL n.data.toList = n.data.toList) : validA (n, V) = false := by unfold validA headV; simp [h]
theorem head_no3 {n : ByteArray} {V : List ByteArray} (h : ¬ 1 ≤ V.length) : validA (n, V) = false := by unfold validA headV; rw [decide_eq_false h]; simp
theorem head_no4 {n : ByteArray} {V : List ByteArray} (h : ¬ V.length ≤ 16) : validA (n, V) = false := by unfold validA headV; rw [decide_eq_false h]; simp
theorem head_yes {n : ByteArray} {V : List ByteArray} (h1 : tokL n.data.toList = true) (h2 : lowL n.data.toList = n.data.toList) (h3 : 1 ≤ V.length) (h4 : V.length ≤ 16) : validA (n, V) = valsV n V V.length := by
  unfold validA headV; simp [h1, h2, h3, h4]
theorem vals_no {n : ByteArray} {V : List ByteArray} {i m : Nat} (h : i < m) (hf : (valueV n (atS V i) && newV n V i i) = false) : valsV n V m = false := range_no h hf
theorem new_no {n : ByteArray} {V : List ByteArray} {i j : Nat} (h : j < i) (hf : sameV n (atS V i) (atS V j) = true) : newV n V i i = false := range_no h (by rw [hf]; rfl)
def AoRel (n : ByteArray) (V : List ByteArray) (W0 : World) (i : Value) (wr : World) : Prop :=
  ∃ j : Nat, i = .int .i64 j ∧ j ≤ V.length ∧ valsV n V j = true ∧ Box (Below W0.heap.size W0 wr)
def AiRel (n : ByteArray) (V : List ByteArray) (j : Nat) (W0 : World) (i : Value) (wr : World) : Prop :=
  ∃ m : Nat, i = .int .i64 m ∧ m ≤ j ∧ newV n V j m = true ∧ Box (Below W0.heap.size W0 wr)
set_option maxHeartbeats 8000000 in
theorem rValidAxis_any (n : ByteArray) (b : Option Addr) (c : Nat) (V : List ByteArray) (w : World) (hn : n.size ≤ 65000) (hl : V.length ≤ 65536) (hz : Box (∀ i (hi : i < V.length), V[i].size ≤ 65000)) (hF : Box (Ss w b V)) :
    Calls Tryz.prog 55 #[.agg #[.string n, .slice b V.length c]] w fun e w' => e = .returned (.bool (validA (n, V))) ∧ Below w.heap.size w w' := by
  have hn4 : n.size ≤ 4294967296 := by omega
  have hnm : n.size ≤ maxLen := by unfold maxLen; omega
  have HNM := box hnm
  clear hnm
  have hC := C2.new (.string n) (.slice b V.length c) w 39
  have c0 := hC.1.1
  have c1 := hC.1.2
  have F0 := box (hF.out.below (below_new w (.cells #[.string n, .slice b V.length c] 39)))
  have B0 := box (below_new w (.cells #[.string n, .slice b V.length c] 39))
  have HC := box hC
  clear hC
  rcases ht : tokL n.data.toList with _ | _
  · have HT := box ht
    have HV := box (head_no1 (V := V) ht)
    clear ht
    go_enter Tryz.func55, Tryz.ntmps55
    go_wp2
    refine wp_region_held_drew (S := (fun w' : World => (w'.cell? ⟨w.heap.size, 0, none⟩ = some (.string n) ∧ w'.cell? ⟨w.heap.size, 1, none⟩ = some (.slice b V.length c)) ∧ Box (Below (w.alloc (.cells #[.string n, .slice b V.length c] 39)).heap.size (w.alloc (.cells #[.string n, .slice b V.length c] 39)) w'))) (by kernel_rfl) ⟨⟨c0, c1⟩, box (Below.refl _ _).drew⟩ (fun hHeld => ?_)
    refine wpAnyH_take (i := 0) (oi := { dst := some 5, op := Op.fieldAddr 39 (Operand.tmp 1) 0, type := 0, pos := "variants.go:41", after := #[], guard := none }) (v := ?v0z1) rfl (by kernel_rfl) (by kernel_rfl) (by kernel_rfl) (fun _ _ _ h => h) (Or.inl ⟨by rfl, ?y0z1⟩) (by assumption) ?r0z1
    case y0z1 => (intro w hSw; (try dsimp only at hSw); go_simp; first | done | with_reducible rfl)
    try simp only [Act.put, List.setIfInBounds_toArray, List.set_cons_zero, List.set_cons_succ]
    refine wpAnyH_take (i := 1) (oi := { dst := some 6, op := Op.load 9 (Operand.tmp 5), type := 9, pos := "variants.go:41", after := #[{ on := 0, ground := Ground.data }], guard := none }) (v := ?v1z1) rfl (by kernel_rfl) (by kernel_rfl) (by kernel_rfl) (fun _ _ _ h => h) (Or.inl ⟨by rfl, ?y1z1⟩) (by assumption) ?r1z1
    case y1z1 => (intro w hSw; (try dsimp only at hSw); go_simp; first | done | with_reducible rfl)
    try simp only [Act.put, List.setIfInBounds_toArray, List.set_cons_zero, List.set_cons_succ]
    refine wpAnyH_ready (rs := [2]) (by kernel_rfl) (by simp) ?_
    refine AllReadyH.cons (o := { dst := some 7, op := Op.call { callee := Callee.value (Operand.func 48), args := #[Operand.tmp 6], argTypes := #[9] }, type := 4, pos := "variants.go:41", after := #[{ on := 1, ground := Ground.data }], guard := none }) rfl (fun K hK => ?_) AllReadyH.nil
    go_simp
    refine (rTok13_is HNM.out HT).mono ?_; rintro e w2 ⟨rfl, rfl⟩
    go_wp2_with fail
    refine hK.out _ _ ⟨hHeld.1, hHeld.2⟩ (fun hHeld => ?_)
    clear hK K
    try simp only [Act.put, List.setIfInBounds_toArray, List.set_cons_zero, List.set_cons_succ]
    refine wpAnyH_take (i := 3) (oi := { dst := some 8, op := Op.unOp UnOp.not 4 (Operand.tmp 7), type := 4, pos := "variants.go:41", after := #[{ on := 2, ground := Ground.data }], guard := none }) (v := ?v3z1) rfl (by kernel_rfl) (by kernel_rfl) (by kernel_rfl) (fun _ _ _ h => h) (Or.inl ⟨by rfl, ?y3z1⟩) (by assumption) ?r3z1
    case y3z1 => (intro w hSw; (try dsimp only at hSw); go_simp; first | done | with_reducible rfl)
    try simp only [Act.put, List.setIfInBounds_toArray, List.set_cons_zero, List.set_cons_succ]
    refine wpAnyH_take (i := 4) (oi := { dst := some 9, op := Op.move (Operand.tmp 8), type := 4, pos := "variants.go:41", after := #[{ on := 3, ground := Ground.data }, { on := 2, ground := Ground.chain }], guard := none }) (v := ?v4z1) rfl (by kernel_rfl) (by kernel_rfl) (by kernel_rfl) (fun _ _ _ h => h) (Or.inl ⟨by rfl, ?y4z1⟩) (by assumption) ?r4z1
    case y4z1 => (intro w hSw; (try dsimp only at hSw); go_simp; first | done | with_reducible rfl)
    try simp only [Act.put, List.setIfInBounds_toArray, List.set_cons_zero, List.set_cons_succ]
    refine wpAnyH_take (i := 5) (oi := { dst := some 10, op := Op.fieldAddr 39 (Operand.tmp 1) 0, type := 0, pos := "variants.go:41", after := #[{ on := 4, ground := Ground.guard }], guard := some (4, false) }) (v := undef) rfl (by kernel_rfl) (by kernel_rfl) (by kernel_rfl) (fun _ _ _ h => h) (Or.inr ⟨by rfl, rfl⟩) (by assumption) ?_
    try simp only [Act.put, List.setIfInBounds_toArray, List.set_cons_zero, List.set_cons_succ]
    refine wpAnyH_take (i := 6) (oi := { dst := some 11, op := Op.load 9 (Operand.tmp 10), type := 9, pos := "variants.go:41", after := #[{ on := 5, ground := Ground.data }, { on := 4, ground := Ground.guard }], guard := some (4, false) }) (v := undef) rfl (by kernel_rfl) (by kernel_rfl) (by kernel_rfl) (fun _ _ _ h => h) (Or.inr ⟨by rfl, rfl⟩) (by assumption) ?_
    try simp only [Act.put, List.setIfInBounds_toArray, List.set_cons_zero, List.set_cons_succ]
    refine wpAnyH_take (i := 7) (oi := { dst := some 12, op := Op.call { callee := Callee.value (Operand.func 28), args := #[Operand.tmp 11], argTypes := #[9] }, type := 9, pos := "variants.go:41", after := #[{ on := 6, ground := Ground.data }, { on := 4, ground := Ground.chain }, { on := 4, ground := Ground.guard }], guard := some (4, false) }) (v := undef) rfl (by kernel_rfl) (by kernel_rfl) (by kernel_rfl) (fun _ _ _ h => h) (Or.inr ⟨by rfl, rfl⟩) (by assumption) ?_
    try simp only [Act.put, List.setIfInBounds_toArray, List.set_cons_zero, List.set_cons_succ]
    refine wpAnyH_take (i := 8) (oi := { dst := some 13, op := Op.fieldAddr 39 (Operand.tmp 1) 0, type := 0, pos := "variants.go:41", after := #[{ on := 4, ground := Ground.guard }], guard := some (4, false) }) (v := undef) rfl (by kernel_rfl) (by kernel_rfl) (by kernel_rfl) (fun _ _ _ h => h) (Or.inr ⟨by rfl, rfl⟩) (by assumption) ?_
    try simp only [Act.put, List.setIfInBounds_toArray, List.set_cons_zero, List.set_cons_succ]
    refine wpAnyH_take (i := 9) (oi := { dst := some 14, op := Op.load 9 (Operand.tmp 13), type := 9, pos := "variants.go:41", after := #[{ on := 8, ground := Ground.data }, { on := 4, ground := Ground.guard }], guard := some (4, false) }) (v := undef) rfl (by kernel_rfl) (by kernel_rfl) (by kernel_rfl) (fun _ _ _ h => h) (Or.inr ⟨by rfl, rfl⟩) (by assumption) ?_
    try simp only [Act.put, List.setIfInBounds_toArray, List.set_cons_zero, List.set_cons_succ]
    refine wpAnyH_take (i := 10) (oi := { dst := some 15, op := Op.binOp BinOp.neq 9 (Operand.tmp 12) (Operand.tmp 14) 9, type := 4, pos := "variants.go:41", after := #[{ on := 7, ground := Ground.data }, { on := 9, ground := Ground.data }, { on := 4, ground := Ground.guard }], guard := some (4, false) }) (v := undef) rfl (by kernel_rfl) (by kernel_rfl) (by kernel_rfl) (fun _ _ _ h => h) (Or.inr ⟨by rfl, rfl⟩) (by assumption) ?_
    try simp only [Act.put, List.setIfInBounds_toArray, List.set_cons_zero, List.set_cons_succ]
    refine wpAnyH_take (i := 11) (oi := { dst := some 16, op := Op.pick (Operand.tmp 9) (Operand.const (Value.bool true)) (Operand.tmp 15), type := 4, pos := "variants.go:41", after := #[{ on := 4, ground := Ground.data }, { on := 10, ground := Ground.data }], guard := none }) (v := ?v11z1) rfl (by kernel_rfl) (by kernel_rfl) (by kernel_rfl) (fun _ _ _ h => h) (Or.inl ⟨by rfl, ?y11z1⟩) (by assumption) ?r11z1
    case y11z1 => (intro w hSw; (try dsimp only at hSw); go_simp; first | done | with_reducible rfl)
    try simp only [Act.put, List.setIfInBounds_toArray, List.set_cons_zero, List.set_cons_succ]
    refine wpAnyH_take (i := 12) (oi := { dst := some 17, op := Op.move (Operand.tmp 16), type := 4, pos := "variants.go:41", after := #[{ on := 11, ground := Ground.data }, { on := 7, ground := Ground.chain }], guard := none }) (v := ?v12z1) rfl (by kernel_rfl) (by kernel_rfl) (by kernel_rfl) (fun _ _ _ h => h) (Or.inl ⟨by rfl, ?y12z1⟩) (by assumption) ?r12z1
    case y12z1 => (intro w hSw; (try dsimp only at hSw); go_simp; first | done | with_reducible rfl)
    try simp only [Act.put, List.setIfInBounds_toArray, List.set_cons_zero, List.set_cons_succ]
    refine wpAnyH_take (i := 13) (oi := { dst := some 18, op := Op.fieldAddr 39 (Operand.tmp 1) 1, type := 0, pos := "variants.go:41", after := #[{ on := 12, ground := Ground.guard }], guard := some (12, false) }) (v := undef) rfl (by kernel_rfl) (by kernel_rfl) (by kernel_rfl) (fun _ _ _ h => h) (Or.inr ⟨by rfl, rfl⟩) (by assumption) ?_
    try simp only [Act.put, List.setIfInBounds_toArray, List.set_cons_zero, List.set_cons_succ]
    refine wpAnyH_take (i := 14) (oi := { dst := some 19, op := Op.load 29 (Operand.tmp 18), type := 29, pos := "variants.go:41", after := #[{ on := 13, ground := Ground.data }, { on := 12, ground := Ground.guard }], guard := some (12, false) }) (v := undef) rfl (by kernel_rfl) (by kernel_rfl) (by kernel_rfl) (fun _ _ _ h => h) (Or.inr ⟨by rfl, rfl⟩) (by assumption) ?_
    try simp only [Act.put, List.setIfInBounds_toArray, List.set_cons_zero, List.set_cons_succ]
    refine wpAnyH_take (i := 15) (oi := { dst := some 20, op := Op.call { callee := Callee.builtin Builtin.len, args := #[Operand.tmp 19], argTypes := #[29] }, type := 3, pos := "variants.go:41", after := #[{ on := 14, ground := Ground.data }, { on := 12, ground := Ground.guard }], guard := some (12, false) }) (v := undef) rfl (by kernel_rfl) (by kernel_rfl) (by kernel_rfl) (fun _ _ _ h => h) (Or.inr ⟨by rfl, rfl⟩) (by assumption) ?_
    try simp only [Act.put, List.setIfInBounds_toArray, List.set_cons_zero, List.set_cons_succ]
    refine wpAnyH_take (i := 16) (oi := { dst := some 21, op := Op.binOp BinOp.lss 3 (Operand.tmp 20) (Operand.const (Value.int IntKind.i64 1)) 3, type := 4, pos := "variants.go:41", after := #[{ on := 15, ground := Ground.data }, { on := 12, ground := Ground.guard }], guard := some (12, false) }) (v := undef) rfl (by kernel_rfl) (by kernel_rfl) (by kernel_rfl) (fun _ _ _ h => h) (Or.inr ⟨by rfl, rfl⟩) (by assumption) ?_
    try simp only [Act.put, List.setIfInBounds_toArray, List.set_cons_zero, List.set_cons_succ]
    refine wpAnyH_take (i := 17) (oi := { dst := some 22, op := Op.pick (Operand.tmp 17) (Operand.const (Value.bool true)) (Operand.tmp 21), type := 4, pos := "variants.go:41", after := #[{ on := 12, ground := Ground.data }, { on := 16, ground := Ground.data }], guard := none }) (v := ?v17z1) rfl (by kernel_rfl) (by kernel_rfl) (by kernel_rfl) (fun _ _ _ h => h) (Or.inl ⟨by rfl, ?y17z1⟩) (by assumption) ?r17z1
    case y17z1 => (intro w hSw; (try dsimp only at hSw); go_simp; first | done | with_reducible rfl)
    try simp only [Act.put, List.setIfInBounds_toArray, List.set_cons_zero, List.set_cons_succ]
    refine wpAnyH_take (i := 18) (oi := { dst := some 23, op := Op.move (Operand.tmp 22), type := 4, pos := "variants.go:41", after := #[{ on := 17, ground := Ground.data }, { on := 12, ground := Ground.chain }], guard := none }) (v := ?v18z1) rfl (by kernel_rfl) (by kernel_rfl) (by kernel_rfl) (fun _ _ _ h => h) (Or.inl ⟨by rfl, ?y18z1⟩) (by assumption) ?r18z1
    case y18z1 => (intro w hSw; (try dsimp only at hSw); go_simp; first | done | with_reducible rfl)
    try simp only [Act.put, List.setIfInBounds_toArray, List.set_cons_zero, List.set_cons_succ]
    refine wpAnyH_take (i := 19) (oi := { dst := some 24, op := Op.fieldAddr 39 (Operand.tmp 1) 1, type := 0, pos := "variants.go:41", after := #[{ on := 18, ground := Ground.guard }], guard := some (18, false) }) (v := undef) rfl (by kernel_rfl) (by kernel_rfl) (by kernel_rfl) (fun _ _ _ h => h) (Or.inr ⟨by rfl, rfl⟩) (by assumption) ?_
    try simp only [Act.put, List.setIfInBounds_toArray, List.set_cons_zero, List.set_cons_succ]
    refine wpAnyH_take (i := 20) (oi := { dst := some 25, op := Op.load 29 (Operand.tmp 24), type := 29, pos := "variants.go:41", after := #[{ on := 19, ground := Ground.data }, { on := 18, ground := Ground.guard }], guard := some (18, false) }) (v := undef) rfl (by kernel_rfl) (by kernel_rfl) (by kernel_rfl) (fun _ _ _ h => h) (Or.inr ⟨by rfl, rfl⟩) (by assumption) ?_
    try simp only [Act.put, List.setIfInBounds_toArray, List.set_cons_zero, List.set_cons_succ]
    refine wpAnyH_take (i := 21) (oi := { dst := some 26, op := Op.call { callee := Callee.builtin Builtin.len, args := #[Operand.tmp 25], argTypes := #[29] }, type := 3, pos := "variants.go:41", after := #[{ on := 20, ground := Ground.data }, { on := 18, ground := Ground.guard }], guard := some (18, false) }) (v := undef) rfl (by kernel_rfl) (by kernel_rfl) (by kernel_rfl) (fun _ _ _ h => h) (Or.inr ⟨by rfl, rfl⟩) (by assumption) ?_
    try simp only [Act.put, List.setIfInBounds_toArray, List.set_cons_zero, List.set_cons_succ]
    refine wpAnyH_take (i := 22) (oi := { dst := some 27, op := Op.binOp BinOp.gtr 3 (Operand.tmp 26) (Operand.const (Value.int IntKind.i64 16)) 3, type := 4, pos := "variants.go:41", after := #[{ on := 21, ground := Ground.data }, { on := 18, ground := Ground.guard }], guard := some (18, false) }) (v := undef) rfl (by kernel_rfl) (by kernel_rfl) (by kernel_rfl) (fun _ _ _ h => h) (Or.inr ⟨by rfl, rfl⟩) (by assumption) ?_
    try simp only [Act.put, List.setIfInBounds_toArray, List.set_cons_zero, List.set_cons_succ]
    refine wpAnyH_take (i := 23) (oi := { dst := some 28, op := Op.pick (Operand.tmp 23) (Operand.const (Value.bool true)) (Operand.tmp 27), type := 4, pos := "variants.go:41", after := #[{ on := 18, ground := Ground.data }, { on := 22, ground := Ground.data }], guard := none }) (v := ?v23z1) rfl (by kernel_rfl) (by kernel_rfl) (by kernel_rfl) (fun _ _ _ h => h) (Or.inl ⟨by rfl, ?y23z1⟩) (by assumption) ?r23z1
    case y23z1 => (intro w hSw; (try dsimp only at hSw); go_simp; first | done | with_reducible rfl)
    try simp only [Act.put, List.setIfInBounds_toArray, List.set_cons_zero, List.set_cons_succ]
    refine wpAnyH_done (by kernel_rfl) ?_ _
    all_goals
      go_wp2
      go_ret
      exact ⟨by rw [HV.out]; rfl, B0.out.trans (hHeld.2.out.mono B0.out.size)⟩
  · have HT := box ht
    obtain ⟨lx, hlx⟩ : ∃ x, bs (lowL n.data.toList) = x := ⟨_, rfl⟩
    have HL := box hlx
    by_cases hlo : lowL n.data.toList = n.data.toList
    · have hneq : (lx.toList == n.toList) = true := by rw [← hlx, toList_bs, toList_data, hlo]; simp
      by_cases h1 : 1 ≤ V.length
      · have i1 : decide ((V.length : Int) < 1) = false := decide_eq_false (by omega)
        by_cases h2 : V.length ≤ 16
        · have i2 : decide ((16 : Int) < (V.length : Int)) = false := decide_eq_false (by omega)
          have HV := box (head_yes ht hlo h1 h2)
          clear ht hlx hlo
          go_enter Tryz.func55, Tryz.ntmps55
          go_wp2
          refine wp_region_held_drew (S := (fun w' : World => (w'.cell? ⟨w.heap.size, 0, none⟩ = some (.string n) ∧ w'.cell? ⟨w.heap.size, 1, none⟩ = some (.slice b V.length c)) ∧ Box (Below (w.alloc (.cells #[.string n, .slice b V.length c] 39)).heap.size (w.alloc (.cells #[.string n, .slice b V.length c] 39)) w'))) (by kernel_rfl) ⟨⟨c0, c1⟩, box (Below.refl _ _).drew⟩ (fun hHeld => ?_)
          refine wpAnyH_take (i := 0) (oi := { dst := some 5, op := Op.fieldAddr 39 (Operand.tmp 1) 0, type := 0, pos := "variants.go:41", after := #[], guard := none }) (v := ?v0z2) rfl (by kernel_rfl) (by kernel_rfl) (by kernel_rfl) (fun _ _ _ h => h) (Or.inl ⟨by rfl, ?y0z2⟩) (by assumption) ?r0z2
          case y0z2 => (intro w hSw; (try dsimp only at hSw); go_simp; first | done | with_reducible rfl)
          try simp only [Act.put, List.setIfInBounds_toArray, List.set_cons_zero, List.set_cons_succ]
          refine wpAnyH_take (i := 1) (oi := { dst := some 6, op := Op.load 9 (Operand.tmp 5), type := 9, pos := "variants.go:41", after := #[{ on := 0, ground := Ground.data }], guard := none }) (v := ?v1z2) rfl (by kernel_rfl) (by kernel_rfl) (by kernel_rfl) (fun _ _ _ h => h) (Or.inl ⟨by rfl, ?y1z2⟩) (by assumption) ?r1z2
          case y1z2 => (intro w hSw; (try dsimp only at hSw); go_simp; first | done | with_reducible rfl)
          try simp only [Act.put, List.setIfInBounds_toArray, List.set_cons_zero, List.set_cons_succ]
          refine wpAnyH_ready (rs := [2]) (by kernel_rfl) (by simp) ?_
          refine AllReadyH.cons (o := { dst := some 7, op := Op.call { callee := Callee.value (Operand.func 48), args := #[Operand.tmp 6], argTypes := #[9] }, type := 4, pos := "variants.go:41", after := #[{ on := 1, ground := Ground.data }], guard := none }) rfl (fun K hK => ?_) AllReadyH.nil
          go_simp
          refine (rTok13_is HNM.out HT).mono ?_; rintro e w2 ⟨rfl, rfl⟩
          go_wp2_with fail
          refine hK.out _ _ ⟨hHeld.1, hHeld.2⟩ (fun hHeld => ?_)
          clear hK K
          try simp only [Act.put, List.setIfInBounds_toArray, List.set_cons_zero, List.set_cons_succ]
          refine wpAnyH_take (i := 3) (oi := { dst := some 8, op := Op.unOp UnOp.not 4 (Operand.tmp 7), type := 4, pos := "variants.go:41", after := #[{ on := 2, ground := Ground.data }], guard := none }) (v := ?v3z2) rfl (by kernel_rfl) (by kernel_rfl) (by kernel_rfl) (fun _ _ _ h => h) (Or.inl ⟨by rfl, ?y3z2⟩) (by assumption) ?r3z2
          case y3z2 => (intro w hSw; (try dsimp only at hSw); go_simp; first | done | with_reducible rfl)
          try simp only [Act.put, List.setIfInBounds_toArray, List.set_cons_zero, List.set_cons_succ]
          refine wpAnyH_take (i := 4) (oi := { dst := some 9, op := Op.move (Operand.tmp 8), type := 4, pos := "variants.go:41", after := #[{ on := 3, ground := Ground.data }, { on := 2, ground := Ground.chain }], guard := none }) (v := ?v4z2) rfl (by kernel_rfl) (by kernel_rfl) (by kernel_rfl) (fun _ _ _ h => h) (Or.inl ⟨by rfl, ?y4z2⟩) (by assumption) ?r4z2
          case y4z2 => (intro w hSw; (try dsimp only at hSw); go_simp; first | done | with_reducible rfl)
          try simp only [Act.put, List.setIfInBounds_toArray, List.set_cons_zero, List.set_cons_succ]
          refine wpAnyH_take (i := 5) (oi := { dst := some 10, op := Op.fieldAddr 39 (Operand.tmp 1) 0, type := 0, pos := "variants.go:41", after := #[{ on := 4, ground := Ground.guard }], guard := some (4, false) }) (v := ?v5z2) rfl (by kernel_rfl) (by kernel_rfl) (by kernel_rfl) (fun _ _ _ h => h) (Or.inl ⟨by rfl, ?y5z2⟩) (by assumption) ?r5z2
          case y5z2 => (intro w hSw; (try dsimp only at hSw); go_simp; first | done | with_reducible rfl)
          try simp only [Act.put, List.setIfInBounds_toArray, List.set_cons_zero, List.set_cons_succ]
          refine wpAnyH_take (i := 6) (oi := { dst := some 11, op := Op.load 9 (Operand.tmp 10), type := 9, pos := "variants.go:41", after := #[{ on := 5, ground := Ground.data }, { on := 4, ground := Ground.guard }], guard := some (4, false) }) (v := ?v6z2) rfl (by kernel_rfl) (by kernel_rfl) (by kernel_rfl) (fun _ _ _ h => h) (Or.inl ⟨by rfl, ?y6z2⟩) (by assumption) ?r6z2
          case y6z2 => (intro w hSw; (try dsimp only at hSw); go_simp; first | done | with_reducible rfl)
          try simp only [Act.put, List.setIfInBounds_toArray, List.set_cons_zero, List.set_cons_succ]
          refine wpAnyH_take (i := 8) (oi := { dst := some 13, op := Op.fieldAddr 39 (Operand.tmp 1) 0, type := 0, pos := "variants.go:41", after := #[{ on := 4, ground := Ground.guard }], guard := some (4, false) }) (v := ?v8z2) rfl (by kernel_rfl) (by kernel_rfl) (by kernel_rfl) (fun _ _ _ h => h) (Or.inl ⟨by rfl, ?y8z2⟩) (by assumption) ?r8z2
          case y8z2 => (intro w hSw; (try dsimp only at hSw); go_simp; first | done | with_reducible rfl)
          try simp only [Act.put, List.setIfInBounds_toArray, List.set_cons_zero, List.set_cons_succ]
          refine wpAnyH_take (i := 9) (oi := { dst := some 14, op := Op.load 9 (Operand.tmp 13), type := 9, pos := "variants.go:41", after := #[{ on := 8, ground := Ground.data }, { on := 4, ground := Ground.guard }], guard := some (4, false) }) (v := ?v9z2) rfl (by kernel_rfl) (by kernel_rfl) (by kernel_rfl) (fun _ _ _ h => h) (Or.inl ⟨by rfl, ?y9z2⟩) (by assumption) ?r9z2
          case y9z2 => (intro w hSw; (try dsimp only at hSw); go_simp; first | done | with_reducible rfl)
          try simp only [Act.put, List.setIfInBounds_toArray, List.set_cons_zero, List.set_cons_succ]
          refine wpAnyH_ready (rs := [7]) (by kernel_rfl) (by simp) ?_
          refine AllReadyH.cons (o := { dst := some 12, op := Op.call { callee := Callee.value (Operand.func 28), args := #[Operand.tmp 11], argTypes := #[9] }, type := 9, pos := "variants.go:41", after := #[{ on := 6, ground := Ground.data }, { on := 4, ground := Ground.chain }, { on := 4, ground := Ground.guard }], guard := some (4, false) }) rfl (fun K hK => ?_) AllReadyH.nil
          go_simp
          refine (rLow12_is hn4 HL).mono ?_; rintro e w2 ⟨rfl, hb2⟩
          go_wp2_with fail
          refine hK.out _ _ ⟨⟨(hb2.cell (p := ⟨w.heap.size, 0, none⟩) (cell_lt hHeld.1.1)).trans hHeld.1.1, (hb2.cell (p := ⟨w.heap.size, 1, none⟩) (cell_lt hHeld.1.2)).trans hHeld.1.2⟩, box (hHeld.2.out.trans (hb2.mono hHeld.2.out.size))⟩ (fun hHeld => ?_)
          clear hK K
          try simp only [Act.put, List.setIfInBounds_toArray, List.set_cons_zero, List.set_cons_succ]
          refine wpAnyH_take (i := 10) (oi := { dst := some 15, op := Op.binOp BinOp.neq 9 (Operand.tmp 12) (Operand.tmp 14) 9, type := 4, pos := "variants.go:41", after := #[{ on := 7, ground := Ground.data }, { on := 9, ground := Ground.data }, { on := 4, ground := Ground.guard }], guard := some (4, false) }) (v := ?v10z2) rfl (by kernel_rfl) (by kernel_rfl) (by kernel_rfl) (fun _ _ _ h => h) (Or.inl ⟨by rfl, ?y10z2⟩) (by assumption) ?r10z2
          case y10z2 => (intro w hSw; (try dsimp only at hSw); go_simp; first | done | with_reducible rfl)
          try simp only [Act.put, List.setIfInBounds_toArray, List.set_cons_zero, List.set_cons_succ]
          refine wpAnyH_take (i := 11) (oi := { dst := some 16, op := Op.pick (Operand.tmp 9) (Operand.const (Value.bool true)) (Operand.tmp 15), type := 4, pos := "variants.go:41", after := #[{ on := 4, ground := Ground.data }, { on := 10, ground := Ground.data }], guard := none }) (v := ?v11z2) rfl (by kernel_rfl) (by kernel_rfl) (by kernel_rfl) (fun _ _ _ h => h) (Or.inl ⟨by rfl, ?y11z2⟩) (by assumption) ?r11z2
          case y11z2 => (intro w hSw; (try dsimp only at hSw); go_simp; first | done | with_reducible rfl)
          try simp only [Act.put, List.setIfInBounds_toArray, List.set_cons_zero, List.set_cons_succ]
          refine wpAnyH_take (i := 12) (oi := { dst := some 17, op := Op.move (Operand.tmp 16), type := 4, pos := "variants.go:41", after := #[{ on := 11, ground := Ground.data }, { on := 7, ground := Ground.chain }], guard := none }) (v := ?v12z2) rfl (by kernel_rfl) (by kernel_rfl) (by kernel_rfl) (fun _ _ _ h => h) (Or.inl ⟨by rfl, ?y12z2⟩) (by assumption) ?r12z2
          case y12z2 => (intro w hSw; (try dsimp only at hSw); go_simp; first | done | with_reducible rfl)
          try simp only [Act.put, List.setIfInBounds_toArray, List.set_cons_zero, List.set_cons_succ]
          refine wpAnyH_take (i := 13) (oi := { dst := some 18, op := Op.fieldAddr 39 (Operand.tmp 1) 1, type := 0, pos := "variants.go:41", after := #[{ on := 12, ground := Ground.guard }], guard := some (12, false) }) (v := ?v13z2) rfl (by kernel_rfl) (by kernel_rfl) (by kernel_rfl) (fun _ _ _ h => h) (Or.inl ⟨by rfl, ?y13z2⟩) (by assumption) ?r13z2
          case y13z2 => (intro w hSw; (try dsimp only at hSw); go_simp; first | done | with_reducible rfl)
          try simp only [Act.put, List.setIfInBounds_toArray, List.set_cons_zero, List.set_cons_succ]
          refine wpAnyH_take (i := 14) (oi := { dst := some 19, op := Op.load 29 (Operand.tmp 18), type := 29, pos := "variants.go:41", after := #[{ on := 13, ground := Ground.data }, { on := 12, ground := Ground.guard }], guard := some (12, false) }) (v := ?v14z2) rfl (by kernel_rfl) (by kernel_rfl) (by kernel_rfl) (fun _ _ _ h => h) (Or.inl ⟨by rfl, ?y14z2⟩) (by assumption) ?r14z2
          case y14z2 => (intro w hSw; (try dsimp only at hSw); go_simp; first | done | with_reducible rfl)
          try simp only [Act.put, List.setIfInBounds_toArray, List.set_cons_zero, List.set_cons_succ]
          refine wpAnyH_take (i := 15) (oi := { dst := some 20, op := Op.call { callee := Callee.builtin Builtin.len, args := #[Operand.tmp 19], argTypes := #[29] }, type := 3, pos := "variants.go:41", after := #[{ on := 14, ground := Ground.data }, { on := 12, ground := Ground.guard }], guard := some (12, false) }) (v := ?v15z2) rfl (by kernel_rfl) (by kernel_rfl) (by kernel_rfl) (fun _ _ _ h => h) (Or.inl ⟨by rfl, ?y15z2⟩) (by assumption) ?r15z2
          case y15z2 => (intro w hSw; (try dsimp only at hSw); go_simp; first | done | with_reducible rfl)
          try simp only [Act.put, List.setIfInBounds_toArray, List.set_cons_zero, List.set_cons_succ]
          refine wpAnyH_take (i := 16) (oi := { dst := some 21, op := Op.binOp BinOp.lss 3 (Operand.tmp 20) (Operand.const (Value.int IntKind.i64 1)) 3, type := 4, pos := "variants.go:41", after := #[{ on := 15, ground := Ground.data }, { on := 12, ground := Ground.guard }], guard := some (12, false) }) (v := ?v16z2) rfl (by kernel_rfl) (by kernel_rfl) (by kernel_rfl) (fun _ _ _ h => h) (Or.inl ⟨by rfl, ?y16z2⟩) (by assumption) ?r16z2
          case y16z2 => (intro w hSw; (try dsimp only at hSw); go_simp; first | done | with_reducible rfl)
          try simp only [Act.put, List.setIfInBounds_toArray, List.set_cons_zero, List.set_cons_succ]
          refine wpAnyH_take (i := 17) (oi := { dst := some 22, op := Op.pick (Operand.tmp 17) (Operand.const (Value.bool true)) (Operand.tmp 21), type := 4, pos := "variants.go:41", after := #[{ on := 12, ground := Ground.data }, { on := 16, ground := Ground.data }], guard := none }) (v := ?v17z2) rfl (by kernel_rfl) (by kernel_rfl) (by kernel_rfl) (fun _ _ _ h => h) (Or.inl ⟨by rfl, ?y17z2⟩) (by assumption) ?r17z2
          case y17z2 => (intro w hSw; (try dsimp only at hSw); go_simp; first | done | with_reducible rfl)
          try simp only [Act.put, List.setIfInBounds_toArray, List.set_cons_zero, List.set_cons_succ]
          refine wpAnyH_take (i := 18) (oi := { dst := some 23, op := Op.move (Operand.tmp 22), type := 4, pos := "variants.go:41", after := #[{ on := 17, ground := Ground.data }, { on := 12, ground := Ground.chain }], guard := none }) (v := ?v18z2) rfl (by kernel_rfl) (by kernel_rfl) (by kernel_rfl) (fun _ _ _ h => h) (Or.inl ⟨by rfl, ?y18z2⟩) (by assumption) ?r18z2
          case y18z2 => (intro w hSw; (try dsimp only at hSw); go_simp; first | done | with_reducible rfl)
          try simp only [Act.put, List.setIfInBounds_toArray, List.set_cons_zero, List.set_cons_succ]
          refine wpAnyH_take (i := 19) (oi := { dst := some 24, op := Op.fieldAddr 39 (Operand.tmp 1) 1, type := 0, pos := "variants.go:41", after := #[{ on := 18, ground := Ground.guard }], guard := some (18, false) }) (v := ?v19z2) rfl (by kernel_rfl) (by kernel_rfl) (by kernel_rfl) (fun _ _ _ h => h) (Or.inl ⟨by rfl, ?y19z2⟩) (by assumption) ?r19z2
          case y19z2 => (intro w hSw; (try dsimp only at hSw); go_simp; first | done | with_reducible rfl)
          try simp only [Act.put, List.setIfInBounds_toArray, List.set_cons_zero, List.set_cons_succ]
          refine wpAnyH_take (i := 20) (oi := { dst := some 25, op := Op.load 29 (Operand.tmp 24), type := 29, pos := "variants.go:41", after := #[{ on := 19, ground := Ground.data }, { on := 18, ground := Ground.guard }], guard := some (18, false) }) (v := ?v20z2) rfl (by kernel_rfl) (by kernel_rfl) (by kernel_rfl) (fun _ _ _ h => h) (Or.inl ⟨by rfl, ?y20z2⟩) (by assumption) ?r20z2
          case y20z2 => (intro w hSw; (try dsimp only at hSw); go_simp; first | done | with_reducible rfl)
          try simp only [Act.put, List.setIfInBounds_toArray, List.set_cons_zero, List.set_cons_succ]
          refine wpAnyH_take (i := 21) (oi := { dst := some 26, op := Op.call { callee := Callee.builtin Builtin.len, args := #[Operand.tmp 25], argTypes := #[29] }, type := 3, pos := "variants.go:41", after := #[{ on := 20, ground := Ground.data }, { on := 18, ground := Ground.guard }], guard := some (18, false) }) (v := ?v21z2) rfl (by kernel_rfl) (by kernel_rfl) (by kernel_rfl) (fun _ _ _ h => h) (Or.inl ⟨by rfl, ?y21z2⟩) (by assumption) ?r21z2
          case y21z2 => (intro w hSw; (try dsimp only at hSw); go_simp; first | done | with_reducible rfl)
          try simp only [Act.put, List.setIfInBounds_toArray, List.set_cons_zero, List.set_cons_succ]
          refine wpAnyH_take (i := 22) (oi := { dst := some 27, op := Op.binOp BinOp.gtr 3 (Operand.tmp 26) (Operand.const (Value.int IntKind.i64 16)) 3, type := 4, pos := "variants.go:41", after := #[{ on := 21, ground := Ground.data }, { on := 18, ground := Ground.guard }], guard := some (18, false) }) (v := ?v22z2) rfl (by kernel_rfl) (by kernel_rfl) (by kernel_rfl) (fun _ _ _ h => h) (Or.inl ⟨by rfl, ?y22z2⟩) (by assumption) ?r22z2
          case y22z2 => (intro w hSw; (try dsimp only at hSw); go_simp; first | done | with_reducible rfl)
          try simp only [Act.put, List.setIfInBounds_toArray, List.set_cons_zero, List.set_cons_succ]
          refine wpAnyH_take (i := 23) (oi := { dst := some 28, op := Op.pick (Operand.tmp 23) (Operand.const (Value.bool true)) (Operand.tmp 27), type := 4, pos := "variants.go:41", after := #[{ on := 18, ground := Ground.data }, { on := 22, ground := Ground.data }], guard := none }) (v := ?v23z2) rfl (by kernel_rfl) (by kernel_rfl) (by kernel_rfl) (fun _ _ _ h => h) (Or.inl ⟨by rfl, ?y23z2⟩) (by assumption) ?r23z2
          case y23z2 => (intro w hSw; (try dsimp only at hSw); go_simp; first | done | with_reducible rfl)
          try simp only [Act.put, List.setIfInBounds_toArray, List.set_cons_zero, List.set_cons_succ]
          refine wpAnyH_done (by kernel_rfl) ?_ _
          all_goals
            have HB := box hHeld.2
            clear hHeld c0 c1
            go_wp2
            go_loopw [3] (fun i wr => AoRel n V (w.alloc (.cells #[.string n, .slice b V.length c] 39)) i wr) (fun i _ => V.length - (intOf i).toNat)
            case atStart => exact ⟨0, rfl, Nat.zero_le _, by unfold valsV; simp, HB.out⟩
            case round =>
              obtain ⟨j, rfl, hj, hval, B2⟩ := hrel
              have HVL := box hval
              clear hval
              have C2w := HC.out.next B2.out
              have c0 := C2w.1.1
              have c1 := C2w.1.2
              have hs2 := B2.out.size
              by_cases hlt : j < V.length
              · have hji : (j : Int) < (V.length : Int) := by omega
                have hji0 : (0 : Int) ≤ (j : Int) := by omega
                obtain ⟨g, off, rfl, d0⟩ := (F0.out.below B2.out) j hlt
                have hzj := hz.out j hlt
                rcases hvq : valueV n V[j] with _ | _
                · have HQ := box hvq
                  have HN : Box (validA (n, V) = false) := box (by rw [HV.out]; exact vals_no hlt (by rw [atS_is hlt, hvq]; rfl))
                  clear hvq
                  go_wp2
                  refine wp_region_held_drew (S := (fun w' : World => (w'.cell? ⟨w.heap.size, 0, none⟩ = some (.string n) ∧ w'.cell? ⟨w.heap.size, 1, none⟩ = some (.slice (some ⟨g, off, none⟩) V.length c) ∧ w'.cell? ⟨g, off + j, none⟩ = some (.string V[j])) ∧ Box (Below (w.alloc (.cells #[.string n, .slice (some ⟨g, off, none⟩) V.length c] 39)).heap.size (w.alloc (.cells #[.string n, .slice (some ⟨g, off, none⟩) V.length c] 39)) w'))) (by kernel_rfl) ⟨⟨c0, c1, d0⟩, box B2.out.drew⟩ (fun hHeld => ?_)
                  refine wpAnyH_take (i := 0) (oi := { dst := some 36, op := Op.fieldAddr 39 (Operand.tmp 1) 0, type := 0, pos := "variants.go:45", after := #[], guard := none }) (v := ?v0z3) rfl (by kernel_rfl) (by kernel_rfl) (by kernel_rfl) (fun _ _ _ h => h) (Or.inl ⟨by rfl, ?y0z3⟩) (by assumption) ?r0z3
                  case y0z3 => (intro w hSw; (try dsimp only at hSw); go_simp; first | done | with_reducible rfl)
                  try simp only [Act.put, List.setIfInBounds_toArray, List.set_cons_zero, List.set_cons_succ]
                  refine wpAnyH_take (i := 1) (oi := { dst := some 37, op := Op.load 9 (Operand.tmp 36), type := 9, pos := "variants.go:45", after := #[{ on := 0, ground := Ground.data }], guard := none }) (v := ?v1z3) rfl (by kernel_rfl) (by kernel_rfl) (by kernel_rfl) (fun _ _ _ h => h) (Or.inl ⟨by rfl, ?y1z3⟩) (by assumption) ?r1z3
                  case y1z3 => (intro w hSw; (try dsimp only at hSw); go_simp; first | done | with_reducible rfl)
                  try simp only [Act.put, List.setIfInBounds_toArray, List.set_cons_zero, List.set_cons_succ]
                  refine wpAnyH_take (i := 2) (oi := { dst := some 38, op := Op.fieldAddr 39 (Operand.tmp 1) 1, type := 0, pos := "variants.go:45", after := #[], guard := none }) (v := ?v2z3) rfl (by kernel_rfl) (by kernel_rfl) (by kernel_rfl) (fun _ _ _ h => h) (Or.inl ⟨by rfl, ?y2z3⟩) (by assumption) ?r2z3
                  case y2z3 => (intro w hSw; (try dsimp only at hSw); go_simp; first | done | with_reducible rfl)
                  try simp only [Act.put, List.setIfInBounds_toArray, List.set_cons_zero, List.set_cons_succ]
                  refine wpAnyH_take (i := 3) (oi := { dst := some 39, op := Op.load 29 (Operand.tmp 38), type := 29, pos := "variants.go:45", after := #[{ on := 2, ground := Ground.data }], guard := none }) (v := ?v3z3) rfl (by kernel_rfl) (by kernel_rfl) (by kernel_rfl) (fun _ _ _ h => h) (Or.inl ⟨by rfl, ?y3z3⟩) (by assumption) ?r3z3
                  case y3z3 => (intro w hSw; (try dsimp only at hSw); go_simp; first | done | with_reducible rfl)
                  try simp only [Act.put, List.setIfInBounds_toArray, List.set_cons_zero, List.set_cons_succ]
                  refine wpAnyH_take (i := 4) (oi := { dst := some 40, op := Op.move (Operand.tmp 3), type := 3, pos := "variants.go:45", after := #[], guard := none }) (v := ?v4z3) rfl (by kernel_rfl) (by kernel_rfl) (by kernel_rfl) (fun _ _ _ h => h) (Or.inl ⟨by rfl, ?y4z3⟩) (by assumption) ?r4z3
                  case y4z3 => (intro w hSw; (try dsimp only at hSw); go_simp; first | done | with_reducible rfl)
                  try simp only [Act.put, List.setIfInBounds_toArray, List.set_cons_zero, List.set_cons_succ]
                  refine wpAnyH_take (i := 5) (oi := { dst := some 41, op := Op.indexAddr 29 (Operand.tmp 39) (Operand.tmp 40), type := 0, pos := "variants.go:45", after := #[{ on := 3, ground := Ground.data }, { on := 4, ground := Ground.data }], guard := none }) (v := ?v5z3) rfl (by kernel_rfl) (by kernel_rfl) (by kernel_rfl) (fun _ _ _ h => h) (Or.inl ⟨by rfl, ?y5z3⟩) (by assumption) ?r5z3
                  case y5z3 => (intro w hSw; (try dsimp only at hSw); go_simp; first | done | with_reducible rfl)
                  try simp only [Act.put, List.setIfInBounds_toArray, List.set_cons_zero, List.set_cons_succ]
                  refine wpAnyH_take (i := 6) (oi := { dst := some 42, op := Op.load 9 (Operand.tmp 41), type := 9, pos := "variants.go:45", after := #[{ on := 5, ground := Ground.data }], guard := none }) (v := ?v6z3) rfl (by kernel_rfl) (by kernel_rfl) (by kernel_rfl) (fun _ _ _ h => h) (Or.inl ⟨by rfl, ?y6z3⟩) (by assumption) ?r6z3
                  case y6z3 => (intro w hSw; (try dsimp only at hSw); go_simp; first | done | with_reducible rfl)
                  try simp only [Act.put, List.setIfInBounds_toArray, List.set_cons_zero, List.set_cons_succ]
                  refine wpAnyH_ready (rs := [7]) (by kernel_rfl) (by simp) ?_
                  refine AllReadyH.cons (o := { dst := some 43, op := Op.call { callee := Callee.value (Operand.func 91), args := #[Operand.tmp 37, Operand.tmp 42], argTypes := #[9, 9] }, type := 4, pos := "variants.go:45", after := #[{ on := 1, ground := Ground.data }, { on := 6, ground := Ground.data }], guard := none }) rfl (fun K hK => ?_) AllReadyH.nil
                  go_simp
                  refine (rValue_is hn hzj HQ).mono ?_; rintro e w2 ⟨rfl, hb2⟩
                  go_wp2_with fail
                  refine hK.out _ _ ⟨⟨(hb2.cell (p := ⟨w.heap.size, 0, none⟩) (cell_lt hHeld.1.1)).trans hHeld.1.1, (hb2.cell (p := ⟨w.heap.size, 1, none⟩) (cell_lt hHeld.1.2.1)).trans hHeld.1.2.1, (hb2.cell (p := ⟨g, off + j, none⟩) (cell_lt hHeld.1.2.2)).trans hHeld.1.2.2⟩, box (hHeld.2.out.trans (hb2.mono hHeld.2.out.size))⟩ (fun hHeld => ?_)
                  clear hK K
                  try simp only [Act.put, List.setIfInBounds_toArray, List.set_cons_zero, List.set_cons_succ]
                  refine wpAnyH_take (i := 8) (oi := { dst := some 44, op := Op.unOp UnOp.not 4 (Operand.tmp 43), type := 4, pos := "variants.go:45", after := #[{ on := 7, ground := Ground.data }], guard := none }) (v := ?v8z3) rfl (by kernel_rfl) (by kernel_rfl) (by kernel_rfl) (fun _ _ _ h => h) (Or.inl ⟨by rfl, ?y8z3⟩) (by assumption) ?r8z3
                  case y8z3 => (intro w hSw; (try dsimp only at hSw); go_simp; first | done | with_reducible rfl)
                  try simp only [Act.put, List.setIfInBounds_toArray, List.set_cons_zero, List.set_cons_succ]
                  refine wpAnyH_done (by kernel_rfl) ?_ _
                  all_goals
                    go_wp2
                    go_ret
                    exact ⟨by rw [HN.out]; rfl, B0.out.trans (hHeld.2.out.mono B0.out.size)⟩
                · have HQ := box hvq
                  have hvq2 := hvq
                  clear hvq
                  go_wp2
                  refine wp_region_held_drew (S := (fun w' : World => (w'.cell? ⟨w.heap.size, 0, none⟩ = some (.string n) ∧ w'.cell? ⟨w.heap.size, 1, none⟩ = some (.slice (some ⟨g, off, none⟩) V.length c) ∧ w'.cell? ⟨g, off + j, none⟩ = some (.string V[j])) ∧ Box (Below (w.alloc (.cells #[.string n, .slice (some ⟨g, off, none⟩) V.length c] 39)).heap.size (w.alloc (.cells #[.string n, .slice (some ⟨g, off, none⟩) V.length c] 39)) w'))) (by kernel_rfl) ⟨⟨c0, c1, d0⟩, box B2.out.drew⟩ (fun hHeld => ?_)
                  refine wpAnyH_take (i := 0) (oi := { dst := some 36, op := Op.fieldAddr 39 (Operand.tmp 1) 0, type := 0, pos := "variants.go:45", after := #[], guard := none }) (v := ?v0z4) rfl (by kernel_rfl) (by kernel_rfl) (by kernel_rfl) (fun _ _ _ h => h) (Or.inl ⟨by rfl, ?y0z4⟩) (by assumption) ?r0z4
                  case y0z4 => (intro w hSw; (try dsimp only at hSw); go_simp; first | done | with_reducible rfl)
                  try simp only [Act.put, List.setIfInBounds_toArray, List.set_cons_zero, List.set_cons_succ]
                  refine wpAnyH_take (i := 1) (oi := { dst := some 37, op := Op.load 9 (Operand.tmp 36), type := 9, pos := "variants.go:45", after := #[{ on := 0, ground := Ground.data }], guard := none }) (v := ?v1z4) rfl (by kernel_rfl) (by kernel_rfl) (by kernel_rfl) (fun _ _ _ h => h) (Or.inl ⟨by rfl, ?y1z4⟩) (by assumption) ?r1z4
                  case y1z4 => (intro w hSw; (try dsimp only at hSw); go_simp; first | done | with_reducible rfl)
                  try simp only [Act.put, List.setIfInBounds_toArray, List.set_cons_zero, List.set_cons_succ]
                  refine wpAnyH_take (i := 2) (oi := { dst := some 38, op := Op.fieldAddr 39 (Operand.tmp 1) 1, type := 0, pos := "variants.go:45", after := #[], guard := none }) (v := ?v2z4) rfl (by kernel_rfl) (by kernel_rfl) (by kernel_rfl) (fun _ _ _ h => h) (Or.inl ⟨by rfl, ?y2z4⟩) (by assumption) ?r2z4
                  case y2z4 => (intro w hSw; (try dsimp only at hSw); go_simp; first | done | with_reducible rfl)
                  try simp only [Act.put, List.setIfInBounds_toArray, List.set_cons_zero, List.set_cons_succ]
                  refine wpAnyH_take (i := 3) (oi := { dst := some 39, op := Op.load 29 (Operand.tmp 38), type := 29, pos := "variants.go:45", after := #[{ on := 2, ground := Ground.data }], guard := none }) (v := ?v3z4) rfl (by kernel_rfl) (by kernel_rfl) (by kernel_rfl) (fun _ _ _ h => h) (Or.inl ⟨by rfl, ?y3z4⟩) (by assumption) ?r3z4
                  case y3z4 => (intro w hSw; (try dsimp only at hSw); go_simp; first | done | with_reducible rfl)
                  try simp only [Act.put, List.setIfInBounds_toArray, List.set_cons_zero, List.set_cons_succ]
                  refine wpAnyH_take (i := 4) (oi := { dst := some 40, op := Op.move (Operand.tmp 3), type := 3, pos := "variants.go:45", after := #[], guard := none }) (v := ?v4z4) rfl (by kernel_rfl) (by kernel_rfl) (by kernel_rfl) (fun _ _ _ h => h) (Or.inl ⟨by rfl, ?y4z4⟩) (by assumption) ?r4z4
                  case y4z4 => (intro w hSw; (try dsimp only at hSw); go_simp; first | done | with_reducible rfl)
                  try simp only [Act.put, List.setIfInBounds_toArray, List.set_cons_zero, List.set_cons_succ]
                  refine wpAnyH_take (i := 5) (oi := { dst := some 41, op := Op.indexAddr 29 (Operand.tmp 39) (Operand.tmp 40), type := 0, pos := "variants.go:45", after := #[{ on := 3, ground := Ground.data }, { on := 4, ground := Ground.data }], guard := none }) (v := ?v5z4) rfl (by kernel_rfl) (by kernel_rfl) (by kernel_rfl) (fun _ _ _ h => h) (Or.inl ⟨by rfl, ?y5z4⟩) (by assumption) ?r5z4
                  case y5z4 => (intro w hSw; (try dsimp only at hSw); go_simp; first | done | with_reducible rfl)
                  try simp only [Act.put, List.setIfInBounds_toArray, List.set_cons_zero, List.set_cons_succ]
                  refine wpAnyH_take (i := 6) (oi := { dst := some 42, op := Op.load 9 (Operand.tmp 41), type := 9, pos := "variants.go:45", after := #[{ on := 5, ground := Ground.data }], guard := none }) (v := ?v6z4) rfl (by kernel_rfl) (by kernel_rfl) (by kernel_rfl) (fun _ _ _ h => h) (Or.inl ⟨by rfl, ?y6z4⟩) (by assumption) ?r6z4
                  case y6z4 => (intro w hSw; (try dsimp only at hSw); go_simp; first | done | with_reducible rfl)
                  try simp only [Act.put, List.setIfInBounds_toArray, List.set_cons_zero, List.set_cons_succ]
                  refine wpAnyH_ready (rs := [7]) (by kernel_rfl) (by simp) ?_
                  refine AllReadyH.cons (o := { dst := some 43, op := Op.call { callee := Callee.value (Operand.func 91), args := #[Operand.tmp 37, Operand.tmp 42], argTypes := #[9, 9] }, type := 4, pos := "variants.go:45", after := #[{ on := 1, ground := Ground.data }, { on := 6, ground := Ground.data }], guard := none }) rfl (fun K hK => ?_) AllReadyH.nil
                  go_simp
                  refine (rValue_is hn hzj HQ).mono ?_; rintro e w2 ⟨rfl, hb2⟩
                  go_wp2_with fail
                  refine hK.out _ _ ⟨⟨(hb2.cell (p := ⟨w.heap.size, 0, none⟩) (cell_lt hHeld.1.1)).trans hHeld.1.1, (hb2.cell (p := ⟨w.heap.size, 1, none⟩) (cell_lt hHeld.1.2.1)).trans hHeld.1.2.1, (hb2.cell (p := ⟨g, off + j, none⟩) (cell_lt hHeld.1.2.2)).trans hHeld.1.2.2⟩, box (hHeld.2.out.trans (hb2.mono hHeld.2.out.size))⟩ (fun hHeld => ?_)
                  clear hK K
                  try simp only [Act.put, List.setIfInBounds_toArray, List.set_cons_zero, List.set_cons_succ]
                  refine wpAnyH_take (i := 8) (oi := { dst := some 44, op := Op.unOp UnOp.not 4 (Operand.tmp 43), type := 4, pos := "variants.go:45", after := #[{ on := 7, ground := Ground.data }], guard := none }) (v := ?v8z4) rfl (by kernel_rfl) (by kernel_rfl) (by kernel_rfl) (fun _ _ _ h => h) (Or.inl ⟨by rfl, ?y8z4⟩) (by assumption) ?r8z4
                  case y8z4 => (intro w hSw; (try dsimp only at hSw); go_simp; first | done | with_reducible rfl)
                  try simp only [Act.put, List.setIfInBounds_toArray, List.set_cons_zero, List.set_cons_succ]
                  refine wpAnyH_done (by kernel_rfl) ?_ _
                  all_goals
                    have HB3 := box hHeld.2
                    have HQ2 := box hvq2
                    clear hHeld hvq2 c0 c1 d0 C2w
                    go_wp2
                    go_loopw [4] (fun i wi => AiRel n V j (w.alloc (.cells #[.string n, .slice (some ⟨g, off, none⟩) V.length c] 39)) i wi) (fun i _ => j - (intOf i).toNat)
                    case atStart => exact ⟨0, rfl, Nat.zero_le _, by unfold newV; simp, HB3.out⟩
                    case round =>
                      obtain ⟨m, rfl, hm, hnew, B4⟩ := hrel
                      have HNW := box hnew
                      clear hnew
                      have C2w := HC.out.next B4.out
                      have c0 := C2w.1.1
                      have c1 := C2w.1.2
                      have hs4 := B4.out.size
                      clear C2w
                      by_cases hmj : m < j
                      · have hmi : (m : Int) < (j : Int) := by omega
                        have hml : (m : Int) < (V.length : Int) := by omega
                        have hml0 : (0 : Int) ≤ (m : Int) := by omega
                        have hmlt : m < V.length := by omega
                        obtain ⟨g', off', e, d0⟩ := (F0.out.below B4.out) j hlt
                        cases e
                        obtain ⟨g', off', e, d1⟩ := (F0.out.below B4.out) m hmlt
                        cases e
                        have hzm := hz.out m hmlt
                        rcases hsq : sameV n V[j] V[m] with _ | _
                        · have HS := box hsq
                          have HN2 : Box (newV n V j (m + 1) = true) := box (by rw [newV_more, HNW.out, atS_is hlt, atS_is hmlt, hsq]; rfl)
                          clear hsq
                          go_wp2
                          refine wp_region_held_drew (S := (fun w' : World => (w'.cell? ⟨w.heap.size, 0, none⟩ = some (.string n) ∧ w'.cell? ⟨w.heap.size, 1, none⟩ = some (.slice (some ⟨g, off, none⟩) V.length c) ∧ w'.cell? ⟨g, off + j, none⟩ = some (.string V[j]) ∧ w'.cell? ⟨g, off + m, none⟩ = some (.string V[m])) ∧ Box (Below (w.alloc (.cells #[.string n, .slice (some ⟨g, off, none⟩) V.length c] 39)).heap.size (w.alloc (.cells #[.string n, .slice (some ⟨g, off, none⟩) V.length c] 39)) w'))) (by kernel_rfl) ⟨⟨c0, c1, d0, d1⟩, box B4.out.drew⟩ (fun hHeld => ?_)
                          refine wpAnyH_take (i := 0) (oi := { dst := some 50, op := Op.fieldAddr 39 (Operand.tmp 1) 0, type := 0, pos := "variants.go:49", after := #[], guard := none }) (v := ?v0z5) rfl (by kernel_rfl) (by kernel_rfl) (by kernel_rfl) (fun _ _ _ h => h) (Or.inl ⟨by rfl, ?y0z5⟩) (by assumption) ?r0z5
                          case y0z5 => (intro w hSw; (try dsimp only at hSw); go_simp; first | done | with_reducible rfl)
                          try simp only [Act.put, List.setIfInBounds_toArray, List.set_cons_zero, List.set_cons_succ]
                          refine wpAnyH_take (i := 1) (oi := { dst := some 51, op := Op.load 9 (Operand.tmp 50), type := 9, pos := "variants.go:49", after := #[{ on := 0, ground := Ground.data }], guard := none }) (v := ?v1z5) rfl (by kernel_rfl) (by kernel_rfl) (by kernel_rfl) (fun _ _ _ h => h) (Or.inl ⟨by rfl, ?y1z5⟩) (by assumption) ?r1z5
                          case y1z5 => (intro w hSw; (try dsimp only at hSw); go_simp; first | done | with_reducible rfl)
                          try simp only [Act.put, List.setIfInBounds_toArray, List.set_cons_zero, List.set_cons_succ]
                          refine wpAnyH_take (i := 2) (oi := { dst := some 52, op := Op.fieldAddr 39 (Operand.tmp 1) 1, type := 0, pos := "variants.go:49", after := #[], guard := none }) (v := ?v2z5) rfl (by kernel_rfl) (by kernel_rfl) (by kernel_rfl) (fun _ _ _ h => h) (Or.inl ⟨by rfl, ?y2z5⟩) (by assumption) ?r2z5
                          case y2z5 => (intro w hSw; (try dsimp only at hSw); go_simp; first | done | with_reducible rfl)
                          try simp only [Act.put, List.setIfInBounds_toArray, List.set_cons_zero, List.set_cons_succ]
                          refine wpAnyH_take (i := 3) (oi := { dst := some 53, op := Op.load 29 (Operand.tmp 52), type := 29, pos := "variants.go:49", after := #[{ on := 2, ground := Ground.data }], guard := none }) (v := ?v3z5) rfl (by kernel_rfl) (by kernel_rfl) (by kernel_rfl) (fun _ _ _ h => h) (Or.inl ⟨by rfl, ?y3z5⟩) (by assumption) ?r3z5
                          case y3z5 => (intro w hSw; (try dsimp only at hSw); go_simp; first | done | with_reducible rfl)
                          try simp only [Act.put, List.setIfInBounds_toArray, List.set_cons_zero, List.set_cons_succ]
                          refine wpAnyH_take (i := 4) (oi := { dst := some 54, op := Op.move (Operand.tmp 3), type := 3, pos := "variants.go:49", after := #[], guard := none }) (v := ?v4z5) rfl (by kernel_rfl) (by kernel_rfl) (by kernel_rfl) (fun _ _ _ h => h) (Or.inl ⟨by rfl, ?y4z5⟩) (by assumption) ?r4z5
                          case y4z5 => (intro w hSw; (try dsimp only at hSw); go_simp; first | done | with_reducible rfl)
                          try simp only [Act.put, List.setIfInBounds_toArray, List.set_cons_zero, List.set_cons_succ]
                          refine wpAnyH_take (i := 5) (oi := { dst := some 55, op := Op.indexAddr 29 (Operand.tmp 53) (Operand.tmp 54), type := 0, pos := "variants.go:49", after := #[{ on := 3, ground := Ground.data }, { on := 4, ground := Ground.data }], guard := none }) (v := ?v5z5) rfl (by kernel_rfl) (by kernel_rfl) (by kernel_rfl) (fun _ _ _ h => h) (Or.inl ⟨by rfl, ?y5z5⟩) (by assumption) ?r5z5
                          case y5z5 => (intro w hSw; (try dsimp only at hSw); go_simp; first | done | with_reducible rfl)
                          try simp only [Act.put, List.setIfInBounds_toArray, List.set_cons_zero, List.set_cons_succ]
                          refine wpAnyH_take (i := 6) (oi := { dst := some 56, op := Op.load 9 (Operand.tmp 55), type := 9, pos := "variants.go:49", after := #[{ on := 5, ground := Ground.data }], guard := none }) (v := ?v6z5) rfl (by kernel_rfl) (by kernel_rfl) (by kernel_rfl) (fun _ _ _ h => h) (Or.inl ⟨by rfl, ?y6z5⟩) (by assumption) ?r6z5
                          case y6z5 => (intro w hSw; (try dsimp only at hSw); go_simp; first | done | with_reducible rfl)
                          try simp only [Act.put, List.setIfInBounds_toArray, List.set_cons_zero, List.set_cons_succ]
                          refine wpAnyH_take (i := 7) (oi := { dst := some 57, op := Op.fieldAddr 39 (Operand.tmp 1) 1, type := 0, pos := "variants.go:49", after := #[], guard := none }) (v := ?v7z5) rfl (by kernel_rfl) (by kernel_rfl) (by kernel_rfl) (fun _ _ _ h => h) (Or.inl ⟨by rfl, ?y7z5⟩) (by assumption) ?r7z5
                          case y7z5 => (intro w hSw; (try dsimp only at hSw); go_simp; first | done | with_reducible rfl)
                          try simp only [Act.put, List.setIfInBounds_toArray, List.set_cons_zero, List.set_cons_succ]
                          refine wpAnyH_take (i := 8) (oi := { dst := some 58, op := Op.load 29 (Operand.tmp 57), type := 29, pos := "variants.go:49", after := #[{ on := 7, ground := Ground.data }], guard := none }) (v := ?v8z5) rfl (by kernel_rfl) (by kernel_rfl) (by kernel_rfl) (fun _ _ _ h => h) (Or.inl ⟨by rfl, ?y8z5⟩) (by assumption) ?r8z5
                          case y8z5 => (intro w hSw; (try dsimp only at hSw); go_simp; first | done | with_reducible rfl)
                          try simp only [Act.put, List.setIfInBounds_toArray, List.set_cons_zero, List.set_cons_succ]
                          refine wpAnyH_take (i := 9) (oi := { dst := some 59, op := Op.move (Operand.tmp 4), type := 3, pos := "variants.go:49", after := #[], guard := none }) (v := ?v9z5) rfl (by kernel_rfl) (by kernel_rfl) (by kernel_rfl) (fun _ _ _ h => h) (Or.inl ⟨by rfl, ?y9z5⟩) (by assumption) ?r9z5
                          case y9z5 => (intro w hSw; (try dsimp only at hSw); go_simp; first | done | with_reducible rfl)
                          try simp only [Act.put, List.setIfInBounds_toArray, List.set_cons_zero, List.set_cons_succ]
                          refine wpAnyH_take (i := 10) (oi := { dst := some 60, op := Op.indexAddr 29 (Operand.tmp 58) (Operand.tmp 59), type := 0, pos := "variants.go:49", after := #[{ on := 8, ground := Ground.data }, { on := 9, ground := Ground.data }], guard := none }) (v := ?v10z5) rfl (by kernel_rfl) (by kernel_rfl) (by kernel_rfl) (fun _ _ _ h => h) (Or.inl ⟨by rfl, ?y10z5⟩) (by assumption) ?r10z5
                          case y10z5 => (intro w hSw; (try dsimp only at hSw); go_simp; first | done | with_reducible rfl)
                          try simp only [Act.put, List.setIfInBounds_toArray, List.set_cons_zero, List.set_cons_succ]
                          refine wpAnyH_take (i := 11) (oi := { dst := some 61, op := Op.load 9 (Operand.tmp 60), type := 9, pos := "variants.go:49", after := #[{ on := 10, ground := Ground.data }], guard := none }) (v := ?v11z5) rfl (by kernel_rfl) (by kernel_rfl) (by kernel_rfl) (fun _ _ _ h => h) (Or.inl ⟨by rfl, ?y11z5⟩) (by assumption) ?r11z5
                          case y11z5 => (intro w hSw; (try dsimp only at hSw); go_simp; first | done | with_reducible rfl)
                          try simp only [Act.put, List.setIfInBounds_toArray, List.set_cons_zero, List.set_cons_succ]
                          refine wpAnyH_ready (rs := [12]) (by kernel_rfl) (by simp) ?_
                          refine AllReadyH.cons (o := { dst := some 62, op := Op.call { callee := Callee.value (Operand.func 92), args := #[Operand.tmp 51, Operand.tmp 56, Operand.tmp 61], argTypes := #[9, 9, 9] }, type := 4, pos := "variants.go:49", after := #[{ on := 1, ground := Ground.data }, { on := 6, ground := Ground.data }, { on := 11, ground := Ground.data }], guard := none }) rfl (fun K hK => ?_) AllReadyH.nil
                          go_simp
                          refine (rSame15_is hn hzj hzm HS).mono ?_; rintro e w2 ⟨rfl, hb2⟩
                          go_wp2_with fail
                          refine hK.out _ _ ⟨⟨(hb2.cell (p := ⟨w.heap.size, 0, none⟩) (cell_lt hHeld.1.1)).trans hHeld.1.1, (hb2.cell (p := ⟨w.heap.size, 1, none⟩) (cell_lt hHeld.1.2.1)).trans hHeld.1.2.1, (hb2.cell (p := ⟨g, off + j, none⟩) (cell_lt hHeld.1.2.2.1)).trans hHeld.1.2.2.1, (hb2.cell (p := ⟨g, off + m, none⟩) (cell_lt hHeld.1.2.2.2)).trans hHeld.1.2.2.2⟩, box (hHeld.2.out.trans (hb2.mono hHeld.2.out.size))⟩ (fun hHeld => ?_)
                          clear hK K
                          try simp only [Act.put, List.setIfInBounds_toArray, List.set_cons_zero, List.set_cons_succ]
                          refine wpAnyH_done (by kernel_rfl) ?_ _
                          all_goals
                            go_wp2
                            go_roundw
                            case rel => exact ⟨m + 1, by go_num, by omega, HN2.out, hHeld.2⟩
                            case measure => simp [intOf]; omega
                        · have HS := box hsq
                          have HN2 : Box (validA (n, V) = false) := box (by
                            rw [HV.out]
                            exact vals_no hlt (by rw [new_no hmj (by rw [atS_is hlt, atS_is hmlt, hsq]), Bool.and_false]))
                          clear hsq
                          go_wp2
                          refine wp_region_held_drew (S := (fun w' : World => (w'.cell? ⟨w.heap.size, 0, none⟩ = some (.string n) ∧ w'.cell? ⟨w.heap.size, 1, none⟩ = some (.slice (some ⟨g, off, none⟩) V.length c) ∧ w'.cell? ⟨g, off + j, none⟩ = some (.string V[j]) ∧ w'.cell? ⟨g, off + m, none⟩ = some (.string V[m])) ∧ Box (Below (w.alloc (.cells #[.string n, .slice (some ⟨g, off, none⟩) V.length c] 39)).heap.size (w.alloc (.cells #[.string n, .slice (some ⟨g, off, none⟩) V.length c] 39)) w'))) (by kernel_rfl) ⟨⟨c0, c1, d0, d1⟩, box B4.out.drew⟩ (fun hHeld => ?_)
                          refine wpAnyH_take (i := 0) (oi := { dst := some 50, op := Op.fieldAddr 39 (Operand.tmp 1) 0, type := 0, pos := "variants.go:49", after := #[], guard := none }) (v := ?v0z6) rfl (by kernel_rfl) (by kernel_rfl) (by kernel_rfl) (fun _ _ _ h => h) (Or.inl ⟨by rfl, ?y0z6⟩) (by assumption) ?r0z6
                          case y0z6 => (intro w hSw; (try dsimp only at hSw); go_simp; first | done | with_reducible rfl)
                          try simp only [Act.put, List.setIfInBounds_toArray, List.set_cons_zero, List.set_cons_succ]
                          refine wpAnyH_take (i := 1) (oi := { dst := some 51, op := Op.load 9 (Operand.tmp 50), type := 9, pos := "variants.go:49", after := #[{ on := 0, ground := Ground.data }], guard := none }) (v := ?v1z6) rfl (by kernel_rfl) (by kernel_rfl) (by kernel_rfl) (fun _ _ _ h => h) (Or.inl ⟨by rfl, ?y1z6⟩) (by assumption) ?r1z6
                          case y1z6 => (intro w hSw; (try dsimp only at hSw); go_simp; first | done | with_reducible rfl)
                          try simp only [Act.put, List.setIfInBounds_toArray, List.set_cons_zero, List.set_cons_succ]
                          refine wpAnyH_take (i := 2) (oi := { dst := some 52, op := Op.fieldAddr 39 (Operand.tmp 1) 1, type := 0, pos := "variants.go:49", after := #[], guard := none }) (v := ?v2z6) rfl (by kernel_rfl) (by kernel_rfl) (by kernel_rfl) (fun _ _ _ h => h) (Or.inl ⟨by rfl, ?y2z6⟩) (by assumption) ?r2z6
                          case y2z6 => (intro w hSw; (try dsimp only at hSw); go_simp; first | done | with_reducible rfl)
                          try simp only [Act.put, List.setIfInBounds_toArray, List.set_cons_zero, List.set_cons_succ]
                          refine wpAnyH_take (i := 3) (oi := { dst := some 53, op := Op.load 29 (Operand.tmp 52), type := 29, pos := "variants.go:49", after := #[{ on := 2, ground := Ground.data }], guard := none }) (v := ?v3z6) rfl (by kernel_rfl) (by kernel_rfl) (by kernel_rfl) (fun _ _ _ h => h) (Or.inl ⟨by rfl, ?y3z6⟩) (by assumption) ?r3z6
                          case y3z6 => (intro w hSw; (try dsimp only at hSw); go_simp; first | done | with_reducible rfl)
                          try simp only [Act.put, List.setIfInBounds_toArray, List.set_cons_zero, List.set_cons_succ]
                          refine wpAnyH_take (i := 4) (oi := { dst := some 54, op := Op.move (Operand.tmp 3), type := 3, pos := "variants.go:49", after := #[], guard := none }) (v := ?v4z6) rfl (by kernel_rfl) (by kernel_rfl) (by kernel_rfl) (fun _ _ _ h => h) (Or.inl ⟨by rfl, ?y4z6⟩) (by assumption) ?r4z6
                          case y4z6 => (intro w hSw; (try dsimp only at hSw); go_simp; first | done | with_reducible rfl)
                          try simp only [Act.put, List.setIfInBounds_toArray, List.set_cons_zero, List.set_cons_succ]
                          refine wpAnyH_take (i := 5) (oi := { dst := some 55, op := Op.indexAddr 29 (Operand.tmp 53) (Operand.tmp 54), type := 0, pos := "variants.go:49", after := #[{ on := 3, ground := Ground.data }, { on := 4, ground := Ground.data }], guard := none }) (v := ?v5z6) rfl (by kernel_rfl) (by kernel_rfl) (by kernel_rfl) (fun _ _ _ h => h) (Or.inl ⟨by rfl, ?y5z6⟩) (by assumption) ?r5z6
                          case y5z6 => (intro w hSw; (try dsimp only at hSw); go_simp; first | done | with_reducible rfl)
                          try simp only [Act.put, List.setIfInBounds_toArray, List.set_cons_zero, List.set_cons_succ]
                          refine wpAnyH_take (i := 6) (oi := { dst := some 56, op := Op.load 9 (Operand.tmp 55), type := 9, pos := "variants.go:49", after := #[{ on := 5, ground := Ground.data }], guard := none }) (v := ?v6z6) rfl (by kernel_rfl) (by kernel_rfl) (by kernel_rfl) (fun _ _ _ h => h) (Or.inl ⟨by rfl, ?y6z6⟩) (by assumption) ?r6z6
                          case y6z6 => (intro w hSw; (try dsimp only at hSw); go_simp; first | done | with_reducible rfl)
                          try simp only [Act.put, List.setIfInBounds_toArray, List.set_cons_zero, List.set_cons_succ]
                          refine wpAnyH_take (i := 7) (oi := { dst := some 57, op := Op.fieldAddr 39 (Operand.tmp 1) 1, type := 0, pos := "variants.go:49", after := #[], guard := none }) (v := ?v7z6) rfl (by kernel_rfl) (by kernel_rfl) (by kernel_rfl) (fun _ _ _ h => h) (Or.inl ⟨by rfl, ?y7z6⟩) (by assumption) ?r7z6
                          case y7z6 => (intro w hSw; (try dsimp only at hSw); go_simp; first | done | with_reducible rfl)
                          try simp only [Act.put, List.setIfInBounds_toArray, List.set_cons_zero, List.set_cons_succ]
                          refine wpAnyH_take (i := 8) (oi := { dst := some 58, op := Op.load 29 (Operand.tmp 57), type := 29, pos := "variants.go:49", after := #[{ on := 7, ground := Ground.data }], guard := none }) (v := ?v8z6) rfl (by kernel_rfl) (by kernel_rfl) (by kernel_rfl) (fun _ _ _ h => h) (Or.inl ⟨by rfl, ?y8z6⟩) (by assumption) ?r8z6
                          case y8z6 => (intro w hSw; (try dsimp only at hSw); go_simp; first | done | with_reducible rfl)
                          try simp only [Act.put, List.setIfInBounds_toArray, List.set_cons_zero, List.set_cons_succ]
                          refine wpAnyH_take (i := 9) (oi := { dst := some 59, op := Op.move (Operand.tmp 4), type := 3, pos := "variants.go:49", after := #[], guard := none }) (v := ?v9z6) rfl (by kernel_rfl) (by kernel_rfl) (by kernel_rfl) (fun _ _ _ h => h) (Or.inl ⟨by rfl, ?y9z6⟩) (by assumption) ?r9z6
                          case y9z6 => (intro w hSw; (try dsimp only at hSw); go_simp; first | done | with_reducible rfl)
                          try simp only [Act.put, List.setIfInBounds_toArray, List.set_cons_zero, List.set_cons_succ]
                          refine wpAnyH_take (i := 10) (oi := { dst := some 60, op := Op.indexAddr 29 (Operand.tmp 58) (Operand.tmp 59), type := 0, pos := "variants.go:49", after := #[{ on := 8, ground := Ground.data }, { on := 9, ground := Ground.data }], guard := none }) (v := ?v10z6) rfl (by kernel_rfl) (by kernel_rfl) (by kernel_rfl) (fun _ _ _ h => h) (Or.inl ⟨by rfl, ?y10z6⟩) (by assumption) ?r10z6
                          case y10z6 => (intro w hSw; (try dsimp only at hSw); go_simp; first | done | with_reducible rfl)
                          try simp only [Act.put, List.setIfInBounds_toArray, List.set_cons_zero, List.set_cons_succ]
                          refine wpAnyH_take (i := 11) (oi := { dst := some 61, op := Op.load 9 (Operand.tmp 60), type := 9, pos := "variants.go:49", after := #[{ on := 10, ground := Ground.data }], guard := none }) (v := ?v11z6) rfl (by kernel_rfl) (by kernel_rfl) (by kernel_rfl) (fun _ _ _ h => h) (Or.inl ⟨by rfl, ?y11z6⟩) (by assumption) ?r11z6
                          case y11z6 => (intro w hSw; (try dsimp only at hSw); go_simp; first | done | with_reducible rfl)
                          try simp only [Act.put, List.setIfInBounds_toArray, List.set_cons_zero, List.set_cons_succ]
                          refine wpAnyH_ready (rs := [12]) (by kernel_rfl) (by simp) ?_
                          refine AllReadyH.cons (o := { dst := some 62, op := Op.call { callee := Callee.value (Operand.func 92), args := #[Operand.tmp 51, Operand.tmp 56, Operand.tmp 61], argTypes := #[9, 9, 9] }, type := 4, pos := "variants.go:49", after := #[{ on := 1, ground := Ground.data }, { on := 6, ground := Ground.data }, { on := 11, ground := Ground.data }], guard := none }) rfl (fun K hK => ?_) AllReadyH.nil
                          go_simp
                          refine (rSame15_is hn hzj hzm HS).mono ?_; rintro e w2 ⟨rfl, hb2⟩
                          go_wp2_with fail
                          refine hK.out _ _ ⟨⟨(hb2.cell (p := ⟨w.heap.size, 0, none⟩) (cell_lt hHeld.1.1)).trans hHeld.1.1, (hb2.cell (p := ⟨w.heap.size, 1, none⟩) (cell_lt hHeld.1.2.1)).trans hHeld.1.2.1, (hb2.cell (p := ⟨g, off + j, none⟩) (cell_lt hHeld.1.2.2.1)).trans hHeld.1.2.2.1, (hb2.cell (p := ⟨g, off + m, none⟩) (cell_lt hHeld.1.2.2.2)).trans hHeld.1.2.2.2⟩, box (hHeld.2.out.trans (hb2.mono hHeld.2.out.size))⟩ (fun hHeld => ?_)
                          clear hK K
                          try simp only [Act.put, List.setIfInBounds_toArray, List.set_cons_zero, List.set_cons_succ]
                          refine wpAnyH_done (by kernel_rfl) ?_ _
                          all_goals
                            go_wp2
                            go_ret
                            exact ⟨by rw [HN2.out]; rfl, B0.out.trans (hHeld.2.out.mono B0.out.size)⟩
                      · have hmi : ¬ (m : Int) < (j : Int) := by omega
                        have hmj2 : m = j := by omega
                        have HVN : Box (valsV n V (j + 1) = true) := box (by
                          have := HNW.out
                          rw [hmj2] at this
                          rw [valsV_more, HVL.out, atS_is hlt, HQ2.out, this]; rfl)
                        clear hmj2
                        go_wp2
                        go_roundw
                        case rel => exact ⟨j + 1, by go_num, by omega, HVN.out, B4⟩
                        case measure => simp [intOf]; omega
              · have hji : ¬ (j : Int) < (V.length : Int) := by omega
                have hjl : j = V.length := by omega
                have HN : Box (validA (n, V) = true) := box (by rw [HV.out, ← hjl]; exact HVL.out)
                clear hjl
                go_wp2
                go_ret
                exact ⟨by rw [HN.out]; rfl, B0.out.trans (B2.out.mono B0.out.size)⟩
        · have i2 : decide ((16 : Int) < (V.length : Int)) = true := decide_eq_true (by omega)
          have HV := box (head_no4 (n := n) h2)
          clear ht hlx hlo
          go_enter Tryz.func55, Tryz.ntmps55
          go_wp2
          refine wp_region_held_drew (S := (fun w' : World => (w'.cell? ⟨w.heap.size, 0, none⟩ = some (.string n) ∧ w'.cell? ⟨w.heap.size, 1, none⟩ = some (.slice b V.length c)) ∧ Box (Below (w.alloc (.cells #[.string n, .slice b V.length c] 39)).heap.size (w.alloc (.cells #[.string n, .slice b V.length c] 39)) w'))) (by kernel_rfl) ⟨⟨c0, c1⟩, box (Below.refl _ _).drew⟩ (fun hHeld => ?_)
          refine wpAnyH_take (i := 0) (oi := { dst := some 5, op := Op.fieldAddr 39 (Operand.tmp 1) 0, type := 0, pos := "variants.go:41", after := #[], guard := none }) (v := ?v0z7) rfl (by kernel_rfl) (by kernel_rfl) (by kernel_rfl) (fun _ _ _ h => h) (Or.inl ⟨by rfl, ?y0z7⟩) (by assumption) ?r0z7
          case y0z7 => (intro w hSw; (try dsimp only at hSw); go_simp; first | done | with_reducible rfl)
          try simp only [Act.put, List.setIfInBounds_toArray, List.set_cons_zero, List.set_cons_succ]
          refine wpAnyH_take (i := 1) (oi := { dst := some 6, op := Op.load 9 (Operand.tmp 5), type := 9, pos := "variants.go:41", after := #[{ on := 0, ground := Ground.data }], guard := none }) (v := ?v1z7) rfl (by kernel_rfl) (by kernel_rfl) (by kernel_rfl) (fun _ _ _ h => h) (Or.inl ⟨by rfl, ?y1z7⟩) (by assumption) ?r1z7
          case y1z7 => (intro w hSw; (try dsimp only at hSw); go_simp; first | done | with_reducible rfl)
          try simp only [Act.put, List.setIfInBounds_toArray, List.set_cons_zero, List.set_cons_succ]
          refine wpAnyH_ready (rs := [2]) (by kernel_rfl) (by simp) ?_
          refine AllReadyH.cons (o := { dst := some 7, op := Op.call { callee := Callee.value (Operand.func 48), args := #[Operand.tmp 6], argTypes := #[9] }, type := 4, pos := "variants.go:41", after := #[{ on := 1, ground := Ground.data }], guard := none }) rfl (fun K hK => ?_) AllReadyH.nil
          go_simp
          refine (rTok13_is HNM.out HT).mono ?_; rintro e w2 ⟨rfl, rfl⟩
          go_wp2_with fail
          refine hK.out _ _ ⟨hHeld.1, hHeld.2⟩ (fun hHeld => ?_)
          clear hK K
          try simp only [Act.put, List.setIfInBounds_toArray, List.set_cons_zero, List.set_cons_succ]
          refine wpAnyH_take (i := 3) (oi := { dst := some 8, op := Op.unOp UnOp.not 4 (Operand.tmp 7), type := 4, pos := "variants.go:41", after := #[{ on := 2, ground := Ground.data }], guard := none }) (v := ?v3z7) rfl (by kernel_rfl) (by kernel_rfl) (by kernel_rfl) (fun _ _ _ h => h) (Or.inl ⟨by rfl, ?y3z7⟩) (by assumption) ?r3z7
          case y3z7 => (intro w hSw; (try dsimp only at hSw); go_simp; first | done | with_reducible rfl)
          try simp only [Act.put, List.setIfInBounds_toArray, List.set_cons_zero, List.set_cons_succ]
          refine wpAnyH_take (i := 4) (oi := { dst := some 9, op := Op.move (Operand.tmp 8), type := 4, pos := "variants.go:41", after := #[{ on := 3, ground := Ground.data }, { on := 2, ground := Ground.chain }], guard := none }) (v := ?v4z7) rfl (by kernel_rfl) (by kernel_rfl) (by kernel_rfl) (fun _ _ _ h => h) (Or.inl ⟨by rfl, ?y4z7⟩) (by assumption) ?r4z7
          case y4z7 => (intro w hSw; (try dsimp only at hSw); go_simp; first | done | with_reducible rfl)
          try simp only [Act.put, List.setIfInBounds_toArray, List.set_cons_zero, List.set_cons_succ]
          refine wpAnyH_take (i := 5) (oi := { dst := some 10, op := Op.fieldAddr 39 (Operand.tmp 1) 0, type := 0, pos := "variants.go:41", after := #[{ on := 4, ground := Ground.guard }], guard := some (4, false) }) (v := ?v5z7) rfl (by kernel_rfl) (by kernel_rfl) (by kernel_rfl) (fun _ _ _ h => h) (Or.inl ⟨by rfl, ?y5z7⟩) (by assumption) ?r5z7
          case y5z7 => (intro w hSw; (try dsimp only at hSw); go_simp; first | done | with_reducible rfl)
          try simp only [Act.put, List.setIfInBounds_toArray, List.set_cons_zero, List.set_cons_succ]
          refine wpAnyH_take (i := 6) (oi := { dst := some 11, op := Op.load 9 (Operand.tmp 10), type := 9, pos := "variants.go:41", after := #[{ on := 5, ground := Ground.data }, { on := 4, ground := Ground.guard }], guard := some (4, false) }) (v := ?v6z7) rfl (by kernel_rfl) (by kernel_rfl) (by kernel_rfl) (fun _ _ _ h => h) (Or.inl ⟨by rfl, ?y6z7⟩) (by assumption) ?r6z7
          case y6z7 => (intro w hSw; (try dsimp only at hSw); go_simp; first | done | with_reducible rfl)
          try simp only [Act.put, List.setIfInBounds_toArray, List.set_cons_zero, List.set_cons_succ]
          refine wpAnyH_take (i := 8) (oi := { dst := some 13, op := Op.fieldAddr 39 (Operand.tmp 1) 0, type := 0, pos := "variants.go:41", after := #[{ on := 4, ground := Ground.guard }], guard := some (4, false) }) (v := ?v8z7) rfl (by kernel_rfl) (by kernel_rfl) (by kernel_rfl) (fun _ _ _ h => h) (Or.inl ⟨by rfl, ?y8z7⟩) (by assumption) ?r8z7
          case y8z7 => (intro w hSw; (try dsimp only at hSw); go_simp; first | done | with_reducible rfl)
          try simp only [Act.put, List.setIfInBounds_toArray, List.set_cons_zero, List.set_cons_succ]
          refine wpAnyH_take (i := 9) (oi := { dst := some 14, op := Op.load 9 (Operand.tmp 13), type := 9, pos := "variants.go:41", after := #[{ on := 8, ground := Ground.data }, { on := 4, ground := Ground.guard }], guard := some (4, false) }) (v := ?v9z7) rfl (by kernel_rfl) (by kernel_rfl) (by kernel_rfl) (fun _ _ _ h => h) (Or.inl ⟨by rfl, ?y9z7⟩) (by assumption) ?r9z7
          case y9z7 => (intro w hSw; (try dsimp only at hSw); go_simp; first | done | with_reducible rfl)
          try simp only [Act.put, List.setIfInBounds_toArray, List.set_cons_zero, List.set_cons_succ]
          refine wpAnyH_ready (rs := [7]) (by kernel_rfl) (by simp) ?_
          refine AllReadyH.cons (o := { dst := some 12, op := Op.call { callee := Callee.value (Operand.func 28), args := #[Operand.tmp 11], argTypes := #[9] }, type := 9, pos := "variants.go:41", after := #[{ on := 6, ground := Ground.data }, { on := 4, ground := Ground.chain }, { on := 4, ground := Ground.guard }], guard := some (4, false) }) rfl (fun K hK => ?_) AllReadyH.nil
          go_simp
          refine (rLow12_is hn4 HL).mono ?_; rintro e w2 ⟨rfl, hb2⟩
          go_wp2_with fail
          refine hK.out _ _ ⟨⟨(hb2.cell (p := ⟨w.heap.size, 0, none⟩) (cell_lt hHeld.1.1)).trans hHeld.1.1, (hb2.cell (p := ⟨w.heap.size, 1, none⟩) (cell_lt hHeld.1.2)).trans hHeld.1.2⟩, box (hHeld.2.out.trans (hb2.mono hHeld.2.out.size))⟩ (fun hHeld => ?_)
          clear hK K
          try simp only [Act.put, List.setIfInBounds_toArray, List.set_cons_zero, List.set_cons_succ]
          refine wpAnyH_take (i := 10) (oi := { dst := some 15, op := Op.binOp BinOp.neq 9 (Operand.tmp 12) (Operand.tmp 14) 9, type := 4, pos := "variants.go:41", after := #[{ on := 7, ground := Ground.data }, { on := 9, ground := Ground.data }, { on := 4, ground := Ground.guard }], guard := some (4, false) }) (v := ?v10z7) rfl (by kernel_rfl) (by kernel_rfl) (by kernel_rfl) (fun _ _ _ h => h) (Or.inl ⟨by rfl, ?y10z7⟩) (by assumption) ?r10z7
          case y10z7 => (intro w hSw; (try dsimp only at hSw); go_simp; first | done | with_reducible rfl)
          try simp only [Act.put, List.setIfInBounds_toArray, List.set_cons_zero, List.set_cons_succ]
          refine wpAnyH_take (i := 11) (oi := { dst := some 16, op := Op.pick (Operand.tmp 9) (Operand.const (Value.bool true)) (Operand.tmp 15), type := 4, pos := "variants.go:41", after := #[{ on := 4, ground := Ground.data }, { on := 10, ground := Ground.data }], guard := none }) (v := ?v11z7) rfl (by kernel_rfl) (by kernel_rfl) (by kernel_rfl) (fun _ _ _ h => h) (Or.inl ⟨by rfl, ?y11z7⟩) (by assumption) ?r11z7
          case y11z7 => (intro w hSw; (try dsimp only at hSw); go_simp; first | done | with_reducible rfl)
          try simp only [Act.put, List.setIfInBounds_toArray, List.set_cons_zero, List.set_cons_succ]
          refine wpAnyH_take (i := 12) (oi := { dst := some 17, op := Op.move (Operand.tmp 16), type := 4, pos := "variants.go:41", after := #[{ on := 11, ground := Ground.data }, { on := 7, ground := Ground.chain }], guard := none }) (v := ?v12z7) rfl (by kernel_rfl) (by kernel_rfl) (by kernel_rfl) (fun _ _ _ h => h) (Or.inl ⟨by rfl, ?y12z7⟩) (by assumption) ?r12z7
          case y12z7 => (intro w hSw; (try dsimp only at hSw); go_simp; first | done | with_reducible rfl)
          try simp only [Act.put, List.setIfInBounds_toArray, List.set_cons_zero, List.set_cons_succ]
          refine wpAnyH_take (i := 13) (oi := { dst := some 18, op := Op.fieldAddr 39 (Operand.tmp 1) 1, type := 0, pos := "variants.go:41", after := #[{ on := 12, ground := Ground.guard }], guard := some (12, false) }) (v := ?v13z7) rfl (by kernel_rfl) (by kernel_rfl) (by kernel_rfl) (fun _ _ _ h => h) (Or.inl ⟨by rfl, ?y13z7⟩) (by assumption) ?r13z7
          case y13z7 => (intro w hSw; (try dsimp only at hSw); go_simp; first | done | with_reducible rfl)
          try simp only [Act.put, List.setIfInBounds_toArray, List.set_cons_zero, List.set_cons_succ]
          refine wpAnyH_take (i := 14) (oi := { dst := some 19, op := Op.load 29 (Operand.tmp 18), type := 29, pos := "variants.go:41", after := #[{ on := 13, ground := Ground.data }, { on := 12, ground := Ground.guard }], guard := some (12, false) }) (v := ?v14z7) rfl (by kernel_rfl) (by kernel_rfl) (by kernel_rfl) (fun _ _ _ h => h) (Or.inl ⟨by rfl, ?y14z7⟩) (by assumption) ?r14z7
          case y14z7 => (intro w hSw; (try dsimp only at hSw); go_simp; first | done | with_reducible rfl)
          try simp only [Act.put, List.setIfInBounds_toArray, List.set_cons_zero, List.set_cons_succ]
          refine wpAnyH_take (i := 15) (oi := { dst := some 20, op := Op.call { callee := Callee.builtin Builtin.len, args := #[Operand.tmp 19], argTypes := #[29] }, type := 3, pos := "variants.go:41", after := #[{ on := 14, ground := Ground.data }, { on := 12, ground := Ground.guard }], guard := some (12, false) }) (v := ?v15z7) rfl (by kernel_rfl) (by kernel_rfl) (by kernel_rfl) (fun _ _ _ h => h) (Or.inl ⟨by rfl, ?y15z7⟩) (by assumption) ?r15z7
          case y15z7 => (intro w hSw; (try dsimp only at hSw); go_simp; first | done | with_reducible rfl)
          try simp only [Act.put, List.setIfInBounds_toArray, List.set_cons_zero, List.set_cons_succ]
          refine wpAnyH_take (i := 16) (oi := { dst := some 21, op := Op.binOp BinOp.lss 3 (Operand.tmp 20) (Operand.const (Value.int IntKind.i64 1)) 3, type := 4, pos := "variants.go:41", after := #[{ on := 15, ground := Ground.data }, { on := 12, ground := Ground.guard }], guard := some (12, false) }) (v := ?v16z7) rfl (by kernel_rfl) (by kernel_rfl) (by kernel_rfl) (fun _ _ _ h => h) (Or.inl ⟨by rfl, ?y16z7⟩) (by assumption) ?r16z7
          case y16z7 => (intro w hSw; (try dsimp only at hSw); go_simp; first | done | with_reducible rfl)
          try simp only [Act.put, List.setIfInBounds_toArray, List.set_cons_zero, List.set_cons_succ]
          refine wpAnyH_take (i := 17) (oi := { dst := some 22, op := Op.pick (Operand.tmp 17) (Operand.const (Value.bool true)) (Operand.tmp 21), type := 4, pos := "variants.go:41", after := #[{ on := 12, ground := Ground.data }, { on := 16, ground := Ground.data }], guard := none }) (v := ?v17z7) rfl (by kernel_rfl) (by kernel_rfl) (by kernel_rfl) (fun _ _ _ h => h) (Or.inl ⟨by rfl, ?y17z7⟩) (by assumption) ?r17z7
          case y17z7 => (intro w hSw; (try dsimp only at hSw); go_simp; first | done | with_reducible rfl)
          try simp only [Act.put, List.setIfInBounds_toArray, List.set_cons_zero, List.set_cons_succ]
          refine wpAnyH_take (i := 18) (oi := { dst := some 23, op := Op.move (Operand.tmp 22), type := 4, pos := "variants.go:41", after := #[{ on := 17, ground := Ground.data }, { on := 12, ground := Ground.chain }], guard := none }) (v := ?v18z7) rfl (by kernel_rfl) (by kernel_rfl) (by kernel_rfl) (fun _ _ _ h => h) (Or.inl ⟨by rfl, ?y18z7⟩) (by assumption) ?r18z7
          case y18z7 => (intro w hSw; (try dsimp only at hSw); go_simp; first | done | with_reducible rfl)
          try simp only [Act.put, List.setIfInBounds_toArray, List.set_cons_zero, List.set_cons_succ]
          refine wpAnyH_take (i := 19) (oi := { dst := some 24, op := Op.fieldAddr 39 (Operand.tmp 1) 1, type := 0, pos := "variants.go:41", after := #[{ on := 18, ground := Ground.guard }], guard := some (18, false) }) (v := ?v19z7) rfl (by kernel_rfl) (by kernel_rfl) (by kernel_rfl) (fun _ _ _ h => h) (Or.inl ⟨by rfl, ?y19z7⟩) (by assumption) ?r19z7
          case y19z7 => (intro w hSw; (try dsimp only at hSw); go_simp; first | done | with_reducible rfl)
          try simp only [Act.put, List.setIfInBounds_toArray, List.set_cons_zero, List.set_cons_succ]
          refine wpAnyH_take (i := 20) (oi := { dst := some 25, op := Op.load 29 (Operand.tmp 24), type := 29, pos := "variants.go:41", after := #[{ on := 19, ground := Ground.data }, { on := 18, ground := Ground.guard }], guard := some (18, false) }) (v := ?v20z7) rfl (by kernel_rfl) (by kernel_rfl) (by kernel_rfl) (fun _ _ _ h => h) (Or.inl ⟨by rfl, ?y20z7⟩) (by assumption) ?r20z7
          case y20z7 => (intro w hSw; (try dsimp only at hSw); go_simp; first | done | with_reducible rfl)
          try simp only [Act.put, List.setIfInBounds_toArray, List.set_cons_zero, List.set_cons_succ]
          refine wpAnyH_take (i := 21) (oi := { dst := some 26, op := Op.call { callee := Callee.builtin Builtin.len, args := #[Operand.tmp 25], argTypes := #[29] }, type := 3, pos := "variants.go:41", after := #[{ on := 20, ground := Ground.data }, { on := 18, ground := Ground.guard }], guard := some (18, false) }) (v := ?v21z7) rfl (by kernel_rfl) (by kernel_rfl) (by kernel_rfl) (fun _ _ _ h => h) (Or.inl ⟨by rfl, ?y21z7⟩) (by assumption) ?r21z7
          case y21z7 => (intro w hSw; (try dsimp only at hSw); go_simp; first | done | with_reducible rfl)
          try simp only [Act.put, List.setIfInBounds_toArray, List.set_cons_zero, List.set_cons_succ]
          refine wpAnyH_take (i := 22) (oi := { dst := some 27, op := Op.binOp BinOp.gtr 3 (Operand.tmp 26) (Operand.const (Value.int IntKind.i64 16)) 3, type := 4, pos := "variants.go:41", after := #[{ on := 21, ground := Ground.data }, { on := 18, ground := Ground.guard }], guard := some (18, false) }) (v := ?v22z7) rfl (by kernel_rfl) (by kernel_rfl) (by kernel_rfl) (fun _ _ _ h => h) (Or.inl ⟨by rfl, ?y22z7⟩) (by assumption) ?r22z7
          case y22z7 => (intro w hSw; (try dsimp only at hSw); go_simp; first | done | with_reducible rfl)
          try simp only [Act.put, List.setIfInBounds_toArray, List.set_cons_zero, List.set_cons_succ]
          refine wpAnyH_take (i := 23) (oi := { dst := some 28, op := Op.pick (Operand.tmp 23) (Operand.const (Value.bool true)) (Operand.tmp 27), type := 4, pos := "variants.go:41", after := #[{ on := 18, ground := Ground.data }, { on := 22, ground := Ground.data }], guard := none }) (v := ?v23z7) rfl (by kernel_rfl) (by kernel_rfl) (by kernel_rfl) (fun _ _ _ h => h) (Or.inl ⟨by rfl, ?y23z7⟩) (by assumption) ?r23z7
          case y23z7 => (intro w hSw; (try dsimp only at hSw); go_simp; first | done | with_reducible rfl)
          try simp only [Act.put, List.setIfInBounds_toArray, List.set_cons_zero, List.set_cons_succ]
          refine wpAnyH_done (by kernel_rfl) ?_ _
          all_goals
            go_wp2
            go_ret
            exact ⟨by rw [HV.out]; rfl, B0.out.trans (hHeld.2.out.mono B0.out.size)⟩
      · have i1 : decide ((V.length : Int) < 1) = true := decide_eq_true (by omega)
        have HV := box (head_no3 (n := n) h1)
        clear ht hlx hlo
        go_enter Tryz.func55, Tryz.ntmps55
        go_wp2
        refine wp_region_held_drew (S := (fun w' : World => (w'.cell? ⟨w.heap.size, 0, none⟩ = some (.string n) ∧ w'.cell? ⟨w.heap.size, 1, none⟩ = some (.slice b V.length c)) ∧ Box (Below (w.alloc (.cells #[.string n, .slice b V.length c] 39)).heap.size (w.alloc (.cells #[.string n, .slice b V.length c] 39)) w'))) (by kernel_rfl) ⟨⟨c0, c1⟩, box (Below.refl _ _).drew⟩ (fun hHeld => ?_)
        refine wpAnyH_take (i := 0) (oi := { dst := some 5, op := Op.fieldAddr 39 (Operand.tmp 1) 0, type := 0, pos := "variants.go:41", after := #[], guard := none }) (v := ?v0z8) rfl (by kernel_rfl) (by kernel_rfl) (by kernel_rfl) (fun _ _ _ h => h) (Or.inl ⟨by rfl, ?y0z8⟩) (by assumption) ?r0z8
        case y0z8 => (intro w hSw; (try dsimp only at hSw); go_simp; first | done | with_reducible rfl)
        try simp only [Act.put, List.setIfInBounds_toArray, List.set_cons_zero, List.set_cons_succ]
        refine wpAnyH_take (i := 1) (oi := { dst := some 6, op := Op.load 9 (Operand.tmp 5), type := 9, pos := "variants.go:41", after := #[{ on := 0, ground := Ground.data }], guard := none }) (v := ?v1z8) rfl (by kernel_rfl) (by kernel_rfl) (by kernel_rfl) (fun _ _ _ h => h) (Or.inl ⟨by rfl, ?y1z8⟩) (by assumption) ?r1z8
        case y1z8 => (intro w hSw; (try dsimp only at hSw); go_simp; first | done | with_reducible rfl)
        try simp only [Act.put, List.setIfInBounds_toArray, List.set_cons_zero, List.set_cons_succ]
        refine wpAnyH_ready (rs := [2]) (by kernel_rfl) (by simp) ?_
        refine AllReadyH.cons (o := { dst := some 7, op := Op.call { callee := Callee.value (Operand.func 48), args := #[Operand.tmp 6], argTypes := #[9] }, type := 4, pos := "variants.go:41", after := #[{ on := 1, ground := Ground.data }], guard := none }) rfl (fun K hK => ?_) AllReadyH.nil
        go_simp
        refine (rTok13_is HNM.out HT).mono ?_; rintro e w2 ⟨rfl, rfl⟩
        go_wp2_with fail
        refine hK.out _ _ ⟨hHeld.1, hHeld.2⟩ (fun hHeld => ?_)
        clear hK K
        try simp only [Act.put, List.setIfInBounds_toArray, List.set_cons_zero, List.set_cons_succ]
        refine wpAnyH_take (i := 3) (oi := { dst := some 8, op := Op.unOp UnOp.not 4 (Operand.tmp 7), type := 4, pos := "variants.go:41", after := #[{ on := 2, ground := Ground.data }], guard := none }) (v := ?v3z8) rfl (by kernel_rfl) (by kernel_rfl) (by kernel_rfl) (fun _ _ _ h => h) (Or.inl ⟨by rfl, ?y3z8⟩) (by assumption) ?r3z8
        case y3z8 => (intro w hSw; (try dsimp only at hSw); go_simp; first | done | with_reducible rfl)
        try simp only [Act.put, List.setIfInBounds_toArray, List.set_cons_zero, List.set_cons_succ]
        refine wpAnyH_take (i := 4) (oi := { dst := some 9, op := Op.move (Operand.tmp 8), type := 4, pos := "variants.go:41", after := #[{ on := 3, ground := Ground.data }, { on := 2, ground := Ground.chain }], guard := none }) (v := ?v4z8) rfl (by kernel_rfl) (by kernel_rfl) (by kernel_rfl) (fun _ _ _ h => h) (Or.inl ⟨by rfl, ?y4z8⟩) (by assumption) ?r4z8
        case y4z8 => (intro w hSw; (try dsimp only at hSw); go_simp; first | done | with_reducible rfl)
        try simp only [Act.put, List.setIfInBounds_toArray, List.set_cons_zero, List.set_cons_succ]
        refine wpAnyH_take (i := 5) (oi := { dst := some 10, op := Op.fieldAddr 39 (Operand.tmp 1) 0, type := 0, pos := "variants.go:41", after := #[{ on := 4, ground := Ground.guard }], guard := some (4, false) }) (v := ?v5z8) rfl (by kernel_rfl) (by kernel_rfl) (by kernel_rfl) (fun _ _ _ h => h) (Or.inl ⟨by rfl, ?y5z8⟩) (by assumption) ?r5z8
        case y5z8 => (intro w hSw; (try dsimp only at hSw); go_simp; first | done | with_reducible rfl)
        try simp only [Act.put, List.setIfInBounds_toArray, List.set_cons_zero, List.set_cons_succ]
        refine wpAnyH_take (i := 6) (oi := { dst := some 11, op := Op.load 9 (Operand.tmp 10), type := 9, pos := "variants.go:41", after := #[{ on := 5, ground := Ground.data }, { on := 4, ground := Ground.guard }], guard := some (4, false) }) (v := ?v6z8) rfl (by kernel_rfl) (by kernel_rfl) (by kernel_rfl) (fun _ _ _ h => h) (Or.inl ⟨by rfl, ?y6z8⟩) (by assumption) ?r6z8
        case y6z8 => (intro w hSw; (try dsimp only at hSw); go_simp; first | done | with_reducible rfl)
        try simp only [Act.put, List.setIfInBounds_toArray, List.set_cons_zero, List.set_cons_succ]
        refine wpAnyH_take (i := 8) (oi := { dst := some 13, op := Op.fieldAddr 39 (Operand.tmp 1) 0, type := 0, pos := "variants.go:41", after := #[{ on := 4, ground := Ground.guard }], guard := some (4, false) }) (v := ?v8z8) rfl (by kernel_rfl) (by kernel_rfl) (by kernel_rfl) (fun _ _ _ h => h) (Or.inl ⟨by rfl, ?y8z8⟩) (by assumption) ?r8z8
        case y8z8 => (intro w hSw; (try dsimp only at hSw); go_simp; first | done | with_reducible rfl)
        try simp only [Act.put, List.setIfInBounds_toArray, List.set_cons_zero, List.set_cons_succ]
        refine wpAnyH_take (i := 9) (oi := { dst := some 14, op := Op.load 9 (Operand.tmp 13), type := 9, pos := "variants.go:41", after := #[{ on := 8, ground := Ground.data }, { on := 4, ground := Ground.guard }], guard := some (4, false) }) (v := ?v9z8) rfl (by kernel_rfl) (by kernel_rfl) (by kernel_rfl) (fun _ _ _ h => h) (Or.inl ⟨by rfl, ?y9z8⟩) (by assumption) ?r9z8
        case y9z8 => (intro w hSw; (try dsimp only at hSw); go_simp; first | done | with_reducible rfl)
        try simp only [Act.put, List.setIfInBounds_toArray, List.set_cons_zero, List.set_cons_succ]
        refine wpAnyH_ready (rs := [7]) (by kernel_rfl) (by simp) ?_
        refine AllReadyH.cons (o := { dst := some 12, op := Op.call { callee := Callee.value (Operand.func 28), args := #[Operand.tmp 11], argTypes := #[9] }, type := 9, pos := "variants.go:41", after := #[{ on := 6, ground := Ground.data }, { on := 4, ground := Ground.chain }, { on := 4, ground := Ground.guard }], guard := some (4, false) }) rfl (fun K hK => ?_) AllReadyH.nil
        go_simp
        refine (rLow12_is hn4 HL).mono ?_; rintro e w2 ⟨rfl, hb2⟩
        go_wp2_with fail
        refine hK.out _ _ ⟨⟨(hb2.cell (p := ⟨w.heap.size, 0, none⟩) (cell_lt hHeld.1.1)).trans hHeld.1.1, (hb2.cell (p := ⟨w.heap.size, 1, none⟩) (cell_lt hHeld.1.2)).trans hHeld.1.2⟩, box (hHeld.2.out.trans (hb2.mono hHeld.2.out.size))⟩ (fun hHeld => ?_)
        clear hK K
        try simp only [Act.put, List.setIfInBounds_toArray, List.set_cons_zero, List.set_cons_succ]
        refine wpAnyH_take (i := 10) (oi := { dst := some 15, op := Op.binOp BinOp.neq 9 (Operand.tmp 12) (Operand.tmp 14) 9, type := 4, pos := "variants.go:41", after := #[{ on := 7, ground := Ground.data }, { on := 9, ground := Ground.data }, { on := 4, ground := Ground.guard }], guard := some (4, false) }) (v := ?v10z8) rfl (by kernel_rfl) (by kernel_rfl) (by kernel_rfl) (fun _ _ _ h => h) (Or.inl ⟨by rfl, ?y10z8⟩) (by assumption) ?r10z8
        case y10z8 => (intro w hSw; (try dsimp only at hSw); go_simp; first | done | with_reducible rfl)
        try simp only [Act.put, List.setIfInBounds_toArray, List.set_cons_zero, List.set_cons_succ]
        refine wpAnyH_take (i := 11) (oi := { dst := some 16, op := Op.pick (Operand.tmp 9) (Operand.const (Value.bool true)) (Operand.tmp 15), type := 4, pos := "variants.go:41", after := #[{ on := 4, ground := Ground.data }, { on := 10, ground := Ground.data }], guard := none }) (v := ?v11z8) rfl (by kernel_rfl) (by kernel_rfl) (by kernel_rfl) (fun _ _ _ h => h) (Or.inl ⟨by rfl, ?y11z8⟩) (by assumption) ?r11z8
        case y11z8 => (intro w hSw; (try dsimp only at hSw); go_simp; first | done | with_reducible rfl)
        try simp only [Act.put, List.setIfInBounds_toArray, List.set_cons_zero, List.set_cons_succ]
        refine wpAnyH_take (i := 12) (oi := { dst := some 17, op := Op.move (Operand.tmp 16), type := 4, pos := "variants.go:41", after := #[{ on := 11, ground := Ground.data }, { on := 7, ground := Ground.chain }], guard := none }) (v := ?v12z8) rfl (by kernel_rfl) (by kernel_rfl) (by kernel_rfl) (fun _ _ _ h => h) (Or.inl ⟨by rfl, ?y12z8⟩) (by assumption) ?r12z8
        case y12z8 => (intro w hSw; (try dsimp only at hSw); go_simp; first | done | with_reducible rfl)
        try simp only [Act.put, List.setIfInBounds_toArray, List.set_cons_zero, List.set_cons_succ]
        refine wpAnyH_take (i := 13) (oi := { dst := some 18, op := Op.fieldAddr 39 (Operand.tmp 1) 1, type := 0, pos := "variants.go:41", after := #[{ on := 12, ground := Ground.guard }], guard := some (12, false) }) (v := ?v13z8) rfl (by kernel_rfl) (by kernel_rfl) (by kernel_rfl) (fun _ _ _ h => h) (Or.inl ⟨by rfl, ?y13z8⟩) (by assumption) ?r13z8
        case y13z8 => (intro w hSw; (try dsimp only at hSw); go_simp; first | done | with_reducible rfl)
        try simp only [Act.put, List.setIfInBounds_toArray, List.set_cons_zero, List.set_cons_succ]
        refine wpAnyH_take (i := 14) (oi := { dst := some 19, op := Op.load 29 (Operand.tmp 18), type := 29, pos := "variants.go:41", after := #[{ on := 13, ground := Ground.data }, { on := 12, ground := Ground.guard }], guard := some (12, false) }) (v := ?v14z8) rfl (by kernel_rfl) (by kernel_rfl) (by kernel_rfl) (fun _ _ _ h => h) (Or.inl ⟨by rfl, ?y14z8⟩) (by assumption) ?r14z8
        case y14z8 => (intro w hSw; (try dsimp only at hSw); go_simp; first | done | with_reducible rfl)
        try simp only [Act.put, List.setIfInBounds_toArray, List.set_cons_zero, List.set_cons_succ]
        refine wpAnyH_take (i := 15) (oi := { dst := some 20, op := Op.call { callee := Callee.builtin Builtin.len, args := #[Operand.tmp 19], argTypes := #[29] }, type := 3, pos := "variants.go:41", after := #[{ on := 14, ground := Ground.data }, { on := 12, ground := Ground.guard }], guard := some (12, false) }) (v := ?v15z8) rfl (by kernel_rfl) (by kernel_rfl) (by kernel_rfl) (fun _ _ _ h => h) (Or.inl ⟨by rfl, ?y15z8⟩) (by assumption) ?r15z8
        case y15z8 => (intro w hSw; (try dsimp only at hSw); go_simp; first | done | with_reducible rfl)
        try simp only [Act.put, List.setIfInBounds_toArray, List.set_cons_zero, List.set_cons_succ]
        refine wpAnyH_take (i := 16) (oi := { dst := some 21, op := Op.binOp BinOp.lss 3 (Operand.tmp 20) (Operand.const (Value.int IntKind.i64 1)) 3, type := 4, pos := "variants.go:41", after := #[{ on := 15, ground := Ground.data }, { on := 12, ground := Ground.guard }], guard := some (12, false) }) (v := ?v16z8) rfl (by kernel_rfl) (by kernel_rfl) (by kernel_rfl) (fun _ _ _ h => h) (Or.inl ⟨by rfl, ?y16z8⟩) (by assumption) ?r16z8
        case y16z8 => (intro w hSw; (try dsimp only at hSw); go_simp; first | done | with_reducible rfl)
        try simp only [Act.put, List.setIfInBounds_toArray, List.set_cons_zero, List.set_cons_succ]
        refine wpAnyH_take (i := 17) (oi := { dst := some 22, op := Op.pick (Operand.tmp 17) (Operand.const (Value.bool true)) (Operand.tmp 21), type := 4, pos := "variants.go:41", after := #[{ on := 12, ground := Ground.data }, { on := 16, ground := Ground.data }], guard := none }) (v := ?v17z8) rfl (by kernel_rfl) (by kernel_rfl) (by kernel_rfl) (fun _ _ _ h => h) (Or.inl ⟨by rfl, ?y17z8⟩) (by assumption) ?r17z8
        case y17z8 => (intro w hSw; (try dsimp only at hSw); go_simp; first | done | with_reducible rfl)
        try simp only [Act.put, List.setIfInBounds_toArray, List.set_cons_zero, List.set_cons_succ]
        refine wpAnyH_take (i := 18) (oi := { dst := some 23, op := Op.move (Operand.tmp 22), type := 4, pos := "variants.go:41", after := #[{ on := 17, ground := Ground.data }, { on := 12, ground := Ground.chain }], guard := none }) (v := ?v18z8) rfl (by kernel_rfl) (by kernel_rfl) (by kernel_rfl) (fun _ _ _ h => h) (Or.inl ⟨by rfl, ?y18z8⟩) (by assumption) ?r18z8
        case y18z8 => (intro w hSw; (try dsimp only at hSw); go_simp; first | done | with_reducible rfl)
        try simp only [Act.put, List.setIfInBounds_toArray, List.set_cons_zero, List.set_cons_succ]
        refine wpAnyH_take (i := 19) (oi := { dst := some 24, op := Op.fieldAddr 39 (Operand.tmp 1) 1, type := 0, pos := "variants.go:41", after := #[{ on := 18, ground := Ground.guard }], guard := some (18, false) }) (v := undef) rfl (by kernel_rfl) (by kernel_rfl) (by kernel_rfl) (fun _ _ _ h => h) (Or.inr ⟨by rfl, rfl⟩) (by assumption) ?_
        try simp only [Act.put, List.setIfInBounds_toArray, List.set_cons_zero, List.set_cons_succ]
        refine wpAnyH_take (i := 20) (oi := { dst := some 25, op := Op.load 29 (Operand.tmp 24), type := 29, pos := "variants.go:41", after := #[{ on := 19, ground := Ground.data }, { on := 18, ground := Ground.guard }], guard := some (18, false) }) (v := undef) rfl (by kernel_rfl) (by kernel_rfl) (by kernel_rfl) (fun _ _ _ h => h) (Or.inr ⟨by rfl, rfl⟩) (by assumption) ?_
        try simp only [Act.put, List.setIfInBounds_toArray, List.set_cons_zero, List.set_cons_succ]
        refine wpAnyH_take (i := 21) (oi := { dst := some 26, op := Op.call { callee := Callee.builtin Builtin.len, args := #[Operand.tmp 25], argTypes := #[29] }, type := 3, pos := "variants.go:41", after := #[{ on := 20, ground := Ground.data }, { on := 18, ground := Ground.guard }], guard := some (18, false) }) (v := undef) rfl (by kernel_rfl) (by kernel_rfl) (by kernel_rfl) (fun _ _ _ h => h) (Or.inr ⟨by rfl, rfl⟩) (by assumption) ?_
        try simp only [Act.put, List.setIfInBounds_toArray, List.set_cons_zero, List.set_cons_succ]
        refine wpAnyH_take (i := 22) (oi := { dst := some 27, op := Op.binOp BinOp.gtr 3 (Operand.tmp 26) (Operand.const (Value.int IntKind.i64 16)) 3, type := 4, pos := "variants.go:41", after := #[{ on := 21, ground := Ground.data }, { on := 18, ground := Ground.guard }], guard := some (18, false) }) (v := undef) rfl (by kernel_rfl) (by kernel_rfl) (by kernel_rfl) (fun _ _ _ h => h) (Or.inr ⟨by rfl, rfl⟩) (by assumption) ?_
        try simp only [Act.put, List.setIfInBounds_toArray, List.set_cons_zero, List.set_cons_succ]
        refine wpAnyH_take (i := 23) (oi := { dst := some 28, op := Op.pick (Operand.tmp 23) (Operand.const (Value.bool true)) (Operand.tmp 27), type := 4, pos := "variants.go:41", after := #[{ on := 18, ground := Ground.data }, { on := 22, ground := Ground.data }], guard := none }) (v := ?v23z8) rfl (by kernel_rfl) (by kernel_rfl) (by kernel_rfl) (fun _ _ _ h => h) (Or.inl ⟨by rfl, ?y23z8⟩) (by assumption) ?r23z8
        case y23z8 => (intro w hSw; (try dsimp only at hSw); go_simp; first | done | with_reducible rfl)
        try simp only [Act.put, List.setIfInBounds_toArray, List.set_cons_zero, List.set_cons_succ]
        refine wpAnyH_done (by kernel_rfl) ?_ _
        all_goals
          go_wp2
          go_ret
          exact ⟨by rw [HV.out]; rfl, B0.out.trans (hHeld.2.out.mono B0.out.size)⟩
    · have hneq : (lx.toList == n.toList) = false := by rw [← hlx, toList_bs, toList_data]; exact beq_eq_false_iff_ne.2 hlo
      have HV := box (head_no2 (V := V) hlo)
      clear ht hlx hlo
      go_enter Tryz.func55, Tryz.ntmps55
      go_wp2
      refine wp_region_held_drew (S := (fun w' : World => (w'.cell? ⟨w.heap.size, 0, none⟩ = some (.string n) ∧ w'.cell? ⟨w.heap.size, 1, none⟩ = some (.slice b V.length c)) ∧ Box (Below (w.alloc (.cells #[.string n, .slice b V.length c] 39)).heap.size (w.alloc (.cells #[.string n, .slice b V.length c] 39)) w'))) (by kernel_rfl) ⟨⟨c0, c1⟩, box (Below.refl _ _).drew⟩ (fun hHeld => ?_)
      refine wpAnyH_take (i := 0) (oi := { dst := some 5, op := Op.fieldAddr 39 (Operand.tmp 1) 0, type := 0, pos := "variants.go:41", after := #[], guard := none }) (v := ?v0z9) rfl (by kernel_rfl) (by kernel_rfl) (by kernel_rfl) (fun _ _ _ h => h) (Or.inl ⟨by rfl, ?y0z9⟩) (by assumption) ?r0z9
      case y0z9 => (intro w hSw; (try dsimp only at hSw); go_simp; first | done | with_reducible rfl)
      try simp only [Act.put, List.setIfInBounds_toArray, List.set_cons_zero, List.set_cons_succ]
      refine wpAnyH_take (i := 1) (oi := { dst := some 6, op := Op.load 9 (Operand.tmp 5), type := 9, pos := "variants.go:41", after := #[{ on := 0, ground := Ground.data }], guard := none }) (v := ?v1z9) rfl (by kernel_rfl) (by kernel_rfl) (by kernel_rfl) (fun _ _ _ h => h) (Or.inl ⟨by rfl, ?y1z9⟩) (by assumption) ?r1z9
      case y1z9 => (intro w hSw; (try dsimp only at hSw); go_simp; first | done | with_reducible rfl)
      try simp only [Act.put, List.setIfInBounds_toArray, List.set_cons_zero, List.set_cons_succ]
      refine wpAnyH_ready (rs := [2]) (by kernel_rfl) (by simp) ?_
      refine AllReadyH.cons (o := { dst := some 7, op := Op.call { callee := Callee.value (Operand.func 48), args := #[Operand.tmp 6], argTypes := #[9] }, type := 4, pos := "variants.go:41", after := #[{ on := 1, ground := Ground.data }], guard := none }) rfl (fun K hK => ?_) AllReadyH.nil
      go_simp
      refine (rTok13_is HNM.out HT).mono ?_; rintro e w2 ⟨rfl, rfl⟩
      go_wp2_with fail
      refine hK.out _ _ ⟨hHeld.1, hHeld.2⟩ (fun hHeld => ?_)
      clear hK K
      try simp only [Act.put, List.setIfInBounds_toArray, List.set_cons_zero, List.set_cons_succ]
      refine wpAnyH_take (i := 3) (oi := { dst := some 8, op := Op.unOp UnOp.not 4 (Operand.tmp 7), type := 4, pos := "variants.go:41", after := #[{ on := 2, ground := Ground.data }], guard := none }) (v := ?v3z9) rfl (by kernel_rfl) (by kernel_rfl) (by kernel_rfl) (fun _ _ _ h => h) (Or.inl ⟨by rfl, ?y3z9⟩) (by assumption) ?r3z9
      case y3z9 => (intro w hSw; (try dsimp only at hSw); go_simp; first | done | with_reducible rfl)
      try simp only [Act.put, List.setIfInBounds_toArray, List.set_cons_zero, List.set_cons_succ]
      refine wpAnyH_take (i := 4) (oi := { dst := some 9, op := Op.move (Operand.tmp 8), type := 4, pos := "variants.go:41", after := #[{ on := 3, ground := Ground.data }, { on := 2, ground := Ground.chain }], guard := none }) (v := ?v4z9) rfl (by kernel_rfl) (by kernel_rfl) (by kernel_rfl) (fun _ _ _ h => h) (Or.inl ⟨by rfl, ?y4z9⟩) (by assumption) ?r4z9
      case y4z9 => (intro w hSw; (try dsimp only at hSw); go_simp; first | done | with_reducible rfl)
      try simp only [Act.put, List.setIfInBounds_toArray, List.set_cons_zero, List.set_cons_succ]
      refine wpAnyH_take (i := 5) (oi := { dst := some 10, op := Op.fieldAddr 39 (Operand.tmp 1) 0, type := 0, pos := "variants.go:41", after := #[{ on := 4, ground := Ground.guard }], guard := some (4, false) }) (v := ?v5z9) rfl (by kernel_rfl) (by kernel_rfl) (by kernel_rfl) (fun _ _ _ h => h) (Or.inl ⟨by rfl, ?y5z9⟩) (by assumption) ?r5z9
      case y5z9 => (intro w hSw; (try dsimp only at hSw); go_simp; first | done | with_reducible rfl)
      try simp only [Act.put, List.setIfInBounds_toArray, List.set_cons_zero, List.set_cons_succ]
      refine wpAnyH_take (i := 6) (oi := { dst := some 11, op := Op.load 9 (Operand.tmp 10), type := 9, pos := "variants.go:41", after := #[{ on := 5, ground := Ground.data }, { on := 4, ground := Ground.guard }], guard := some (4, false) }) (v := ?v6z9) rfl (by kernel_rfl) (by kernel_rfl) (by kernel_rfl) (fun _ _ _ h => h) (Or.inl ⟨by rfl, ?y6z9⟩) (by assumption) ?r6z9
      case y6z9 => (intro w hSw; (try dsimp only at hSw); go_simp; first | done | with_reducible rfl)
      try simp only [Act.put, List.setIfInBounds_toArray, List.set_cons_zero, List.set_cons_succ]
      refine wpAnyH_take (i := 8) (oi := { dst := some 13, op := Op.fieldAddr 39 (Operand.tmp 1) 0, type := 0, pos := "variants.go:41", after := #[{ on := 4, ground := Ground.guard }], guard := some (4, false) }) (v := ?v8z9) rfl (by kernel_rfl) (by kernel_rfl) (by kernel_rfl) (fun _ _ _ h => h) (Or.inl ⟨by rfl, ?y8z9⟩) (by assumption) ?r8z9
      case y8z9 => (intro w hSw; (try dsimp only at hSw); go_simp; first | done | with_reducible rfl)
      try simp only [Act.put, List.setIfInBounds_toArray, List.set_cons_zero, List.set_cons_succ]
      refine wpAnyH_take (i := 9) (oi := { dst := some 14, op := Op.load 9 (Operand.tmp 13), type := 9, pos := "variants.go:41", after := #[{ on := 8, ground := Ground.data }, { on := 4, ground := Ground.guard }], guard := some (4, false) }) (v := ?v9z9) rfl (by kernel_rfl) (by kernel_rfl) (by kernel_rfl) (fun _ _ _ h => h) (Or.inl ⟨by rfl, ?y9z9⟩) (by assumption) ?r9z9
      case y9z9 => (intro w hSw; (try dsimp only at hSw); go_simp; first | done | with_reducible rfl)
      try simp only [Act.put, List.setIfInBounds_toArray, List.set_cons_zero, List.set_cons_succ]
      refine wpAnyH_ready (rs := [7]) (by kernel_rfl) (by simp) ?_
      refine AllReadyH.cons (o := { dst := some 12, op := Op.call { callee := Callee.value (Operand.func 28), args := #[Operand.tmp 11], argTypes := #[9] }, type := 9, pos := "variants.go:41", after := #[{ on := 6, ground := Ground.data }, { on := 4, ground := Ground.chain }, { on := 4, ground := Ground.guard }], guard := some (4, false) }) rfl (fun K hK => ?_) AllReadyH.nil
      go_simp
      refine (rLow12_is hn4 HL).mono ?_; rintro e w2 ⟨rfl, hb2⟩
      go_wp2_with fail
      refine hK.out _ _ ⟨⟨(hb2.cell (p := ⟨w.heap.size, 0, none⟩) (cell_lt hHeld.1.1)).trans hHeld.1.1, (hb2.cell (p := ⟨w.heap.size, 1, none⟩) (cell_lt hHeld.1.2)).trans hHeld.1.2⟩, box (hHeld.2.out.trans (hb2.mono hHeld.2.out.size))⟩ (fun hHeld => ?_)
      clear hK K
      try simp only [Act.put, List.setIfInBounds_toArray, List.set_cons_zero, List.set_cons_succ]
      refine wpAnyH_take (i := 10) (oi := { dst := some 15, op := Op.binOp BinOp.neq 9 (Operand.tmp 12) (Operand.tmp 14) 9, type := 4, pos := "variants.go:41", after := #[{ on := 7, ground := Ground.data }, { on := 9, ground := Ground.data }, { on := 4, ground := Ground.guard }], guard := some (4, false) }) (v := ?v10z9) rfl (by kernel_rfl) (by kernel_rfl) (by kernel_rfl) (fun _ _ _ h => h) (Or.inl ⟨by rfl, ?y10z9⟩) (by assumption) ?r10z9
      case y10z9 => (intro w hSw; (try dsimp only at hSw); go_simp; first | done | with_reducible rfl)
      try simp only [Act.put, List.setIfInBounds_toArray, List.set_cons_zero, List.set_cons_succ]
      refine wpAnyH_take (i := 11) (oi := { dst := some 16, op := Op.pick (Operand.tmp 9) (Operand.const (Value.bool true)) (Operand.tmp 15), type := 4, pos := "variants.go:41", after := #[{ on := 4, ground := Ground.data }, { on := 10, ground := Ground.data }], guard := none }) (v := ?v11z9) rfl (by kernel_rfl) (by kernel_rfl) (by kernel_rfl) (fun _ _ _ h => h) (Or.inl ⟨by rfl, ?y11z9⟩) (by assumption) ?r11z9
      case y11z9 => (intro w hSw; (try dsimp only at hSw); go_simp; first | done | with_reducible rfl)
      try simp only [Act.put, List.setIfInBounds_toArray, List.set_cons_zero, List.set_cons_succ]
      refine wpAnyH_take (i := 12) (oi := { dst := some 17, op := Op.move (Operand.tmp 16), type := 4, pos := "variants.go:41", after := #[{ on := 11, ground := Ground.data }, { on := 7, ground := Ground.chain }], guard := none }) (v := ?v12z9) rfl (by kernel_rfl) (by kernel_rfl) (by kernel_rfl) (fun _ _ _ h => h) (Or.inl ⟨by rfl, ?y12z9⟩) (by assumption) ?r12z9
      case y12z9 => (intro w hSw; (try dsimp only at hSw); go_simp; first | done | with_reducible rfl)
      try simp only [Act.put, List.setIfInBounds_toArray, List.set_cons_zero, List.set_cons_succ]
      refine wpAnyH_take (i := 13) (oi := { dst := some 18, op := Op.fieldAddr 39 (Operand.tmp 1) 1, type := 0, pos := "variants.go:41", after := #[{ on := 12, ground := Ground.guard }], guard := some (12, false) }) (v := undef) rfl (by kernel_rfl) (by kernel_rfl) (by kernel_rfl) (fun _ _ _ h => h) (Or.inr ⟨by rfl, rfl⟩) (by assumption) ?_
      try simp only [Act.put, List.setIfInBounds_toArray, List.set_cons_zero, List.set_cons_succ]
      refine wpAnyH_take (i := 14) (oi := { dst := some 19, op := Op.load 29 (Operand.tmp 18), type := 29, pos := "variants.go:41", after := #[{ on := 13, ground := Ground.data }, { on := 12, ground := Ground.guard }], guard := some (12, false) }) (v := undef) rfl (by kernel_rfl) (by kernel_rfl) (by kernel_rfl) (fun _ _ _ h => h) (Or.inr ⟨by rfl, rfl⟩) (by assumption) ?_
      try simp only [Act.put, List.setIfInBounds_toArray, List.set_cons_zero, List.set_cons_succ]
      refine wpAnyH_take (i := 15) (oi := { dst := some 20, op := Op.call { callee := Callee.builtin Builtin.len, args := #[Operand.tmp 19], argTypes := #[29] }, type := 3, pos := "variants.go:41", after := #[{ on := 14, ground := Ground.data }, { on := 12, ground := Ground.guard }], guard := some (12, false) }) (v := undef) rfl (by kernel_rfl) (by kernel_rfl) (by kernel_rfl) (fun _ _ _ h => h) (Or.inr ⟨by rfl, rfl⟩) (by assumption) ?_
      try simp only [Act.put, List.setIfInBounds_toArray, List.set_cons_zero, List.set_cons_succ]
      refine wpAnyH_take (i := 16) (oi := { dst := some 21, op := Op.binOp BinOp.lss 3 (Operand.tmp 20) (Operand.const (Value.int IntKind.i64 1)) 3, type := 4, pos := "variants.go:41", after := #[{ on := 15, ground := Ground.data }, { on := 12, ground := Ground.guard }], guard := some (12, false) }) (v := undef) rfl (by kernel_rfl) (by kernel_rfl) (by kernel_rfl) (fun _ _ _ h => h) (Or.inr ⟨by rfl, rfl⟩) (by assumption) ?_
      try simp only [Act.put, List.setIfInBounds_toArray, List.set_cons_zero, List.set_cons_succ]
      refine wpAnyH_take (i := 17) (oi := { dst := some 22, op := Op.pick (Operand.tmp 17) (Operand.const (Value.bool true)) (Operand.tmp 21), type := 4, pos := "variants.go:41", after := #[{ on := 12, ground := Ground.data }, { on := 16, ground := Ground.data }], guard := none }) (v := ?v17z9) rfl (by kernel_rfl) (by kernel_rfl) (by kernel_rfl) (fun _ _ _ h => h) (Or.inl ⟨by rfl, ?y17z9⟩) (by assumption) ?r17z9
      case y17z9 => (intro w hSw; (try dsimp only at hSw); go_simp; first | done | with_reducible rfl)
      try simp only [Act.put, List.setIfInBounds_toArray, List.set_cons_zero, List.set_cons_succ]
      refine wpAnyH_take (i := 18) (oi := { dst := some 23, op := Op.move (Operand.tmp 22), type := 4, pos := "variants.go:41", after := #[{ on := 17, ground := Ground.data }, { on := 12, ground := Ground.chain }], guard := none }) (v := ?v18z9) rfl (by kernel_rfl) (by kernel_rfl) (by kernel_rfl) (fun _ _ _ h => h) (Or.inl ⟨by rfl, ?y18z9⟩) (by assumption) ?r18z9
      case y18z9 => (intro w hSw; (try dsimp only at hSw); go_simp; first | done | with_reducible rfl)
      try simp only [Act.put, List.setIfInBounds_toArray, List.set_cons_zero, List.set_cons_succ]
      refine wpAnyH_take (i := 19) (oi := { dst := some 24, op := Op.fieldAddr 39 (Operand.tmp 1) 1, type := 0, pos := "variants.go:41", after := #[{ on := 18, ground := Ground.guard }], guard := some (18, false) }) (v := undef) rfl (by kernel_rfl) (by kernel_rfl) (by kernel_rfl) (fun _ _ _ h => h) (Or.inr ⟨by rfl, rfl⟩) (by assumption) ?_
      try simp only [Act.put, List.setIfInBounds_toArray, List.set_cons_zero, List.set_cons_succ]
      refine wpAnyH_take (i := 20) (oi := { dst := some 25, op := Op.load 29 (Operand.tmp 24), type := 29, pos := "variants.go:41", after := #[{ on := 19, ground := Ground.data }, { on := 18, ground := Ground.guard }], guard := some (18, false) }) (v := undef) rfl (by kernel_rfl) (by kernel_rfl) (by kernel_rfl) (fun _ _ _ h => h) (Or.inr ⟨by rfl, rfl⟩) (by assumption) ?_
      try simp only [Act.put, List.setIfInBounds_toArray, List.set_cons_zero, List.set_cons_succ]
      refine wpAnyH_take (i := 21) (oi := { dst := some 26, op := Op.call { callee := Callee.builtin Builtin.len, args := #[Operand.tmp 25], argTypes := #[29] }, type := 3, pos := "variants.go:41", after := #[{ on := 20, ground := Ground.data }, { on := 18, ground := Ground.guard }], guard := some (18, false) }) (v := undef) rfl (by kernel_rfl) (by kernel_rfl) (by kernel_rfl) (fun _ _ _ h => h) (Or.inr ⟨by rfl, rfl⟩) (by assumption) ?_
      try simp only [Act.put, List.setIfInBounds_toArray, List.set_cons_zero, List.set_cons_succ]
      refine wpAnyH_take (i := 22) (oi := { dst := some 27, op := Op.binOp BinOp.gtr 3 (Operand.tmp 26) (Operand.const (Value.int IntKind.i64 16)) 3, type := 4, pos := "variants.go:41", after := #[{ on := 21, ground := Ground.data }, { on := 18, ground := Ground.guard }], guard := some (18, false) }) (v := undef) rfl (by kernel_rfl) (by kernel_rfl) (by kernel_rfl) (fun _ _ _ h => h) (Or.inr ⟨by rfl, rfl⟩) (by assumption) ?_
      try simp only [Act.put, List.setIfInBounds_toArray, List.set_cons_zero, List.set_cons_succ]
      refine wpAnyH_take (i := 23) (oi := { dst := some 28, op := Op.pick (Operand.tmp 23) (Operand.const (Value.bool true)) (Operand.tmp 27), type := 4, pos := "variants.go:41", after := #[{ on := 18, ground := Ground.data }, { on := 22, ground := Ground.data }], guard := none }) (v := ?v23z9) rfl (by kernel_rfl) (by kernel_rfl) (by kernel_rfl) (fun _ _ _ h => h) (Or.inl ⟨by rfl, ?y23z9⟩) (by assumption) ?r23z9
      case y23z9 => (intro w hSw; (try dsimp only at hSw); go_simp; first | done | with_reducible rfl)
      try simp only [Act.put, List.setIfInBounds_toArray, List.set_cons_zero, List.set_cons_succ]
      refine wpAnyH_done (by kernel_rfl) ?_ _
      all_goals
        go_wp2
        go_ret
        exact ⟨by rw [HV.out]; rfl, B0.out.trans (hHeld.2.out.mono B0.out.size)⟩
end
section
open Go.RowKit
theorem rValidAxis_is {n : ByteArray} {b : Option Addr} {c : Nat} {V : List ByteArray} {q : Bool} {w : World} (hn : n.size ≤ 65000) (hl : V.length ≤ 65536) (hz : Box (∀ i (hi : i < V.length), V[i].size ≤ 65000)) (hF : Ss w b V) (h : Box (validA (n, V) = q)) :
    Calls Tryz.prog 55 #[.agg #[.string n, .slice b V.length c]] w fun e w' => e = .returned (.bool q) ∧ Below w.heap.size w w' :=
  (rValidAxis_any n b c V w hn hl hz (box hF)).mono fun e w' ⟨h1, h2⟩ => ⟨by rw [h1, h.out], h2⟩
theorem axes_no {L : List AX} {i m : Nat} (h : i < m) (hf : (validA (atA L i) && newA L i i) = false) : axesV L m = false := range_no h hf
theorem newA_no {L : List AX} {i j : Nat} (h : j < i) (hf : (atA L i).1 = (atA L j).1) : newA L i i = false := range_no h (by rw [hf]; simp)
def smallA (L : List AX) : Prop := ∀ i (hi : i < L.length), L[i].1.size ≤ 65000 ∧ L[i].2.length ≤ 65536 ∧ ∀ j (hj : j < L[i].2.length), L[i].2[j].size ≤ 65000
def AvO (L : List AX) (w : World) (i : Value) (wr : World) : Prop := ∃ j : Nat, i = .int .i64 j ∧ j ≤ L.length ∧ axesV L j = true ∧ Box (Below w.heap.size w wr)
def AvI (L : List AX) (j : Nat) (w : World) (i : Value) (wr : World) : Prop := ∃ m : Nat, i = .int .i64 m ∧ m ≤ j ∧ newA L j m = true ∧ Box (Below w.heap.size w wr)
set_option maxHeartbeats 4000000 in
theorem rValid_any (a : Option Addr) (cap : Nat) (L : List AX) (w : World) (hl : L.length ≤ 65536) (hz : Box (smallA L)) (hF : Box (Axs w a L)) :
    Calls Tryz.prog 23 #[.slice a L.length cap] w fun e w' => e = .returned (.bool (validX L)) ∧ Below w.heap.size w w' := by
  by_cases h1 : 1 ≤ L.length
  · have i1 : ¬ (L.length : Int) < 1 := by omega
    by_cases h2 : L.length ≤ 4
    · have i2 : ¬ (4 : Int) < (L.length : Int) := by omega
      have d1 : decide ((L.length : Int) < 1) = false := decide_eq_false i1
      have d2 : decide ((4 : Int) < (L.length : Int)) = false := decide_eq_false i2
      have HV : Box (validX L = axesV L L.length) := box (by unfold validX; rw [decide_eq_true h1, decide_eq_true h2]; rfl)
      clear h1
      go_enter Tryz.func23, Tryz.ntmps23
      go_wp2
      go_loopw [3, 4] (fun i _ wr => AvO L w i wr) (fun i _ _ => L.length - (intOf i).toNat)
      case atStart => exact ⟨0, rfl, Nat.zero_le _, by unfold axesV; simp, box (Below.refl _ _)⟩
      case round =>
        obtain ⟨j, rfl, hj, hax, B0⟩ := hrel
        have HA := box hax
        have F0 := box (hF.out.below B0.out)
        have hs0 := B0.out.size
        clear hax
        by_cases hlt : j < L.length
        · have hji : (j : Int) < (L.length : Int) := by omega
          obtain ⟨g, off, v, rfl, c0, c1, b, c, rfl, hss, _⟩ := F0.out j hlt
          obtain ⟨z1, z2, z3⟩ := hz.out j hlt
          have SS := box hss
          have Z3 := box z3
          clear hss z3
          rcases hv : validA L[j] with _ | _
          · have HQ := box (show validA (L[j].1, L[j].2) = false from hv)
            have HN : Box (validX L = false) := box (by rw [HV.out]; exact axes_no hlt (by rw [atA_is hlt, hv]; rfl))
            clear hv
            go_wp2_with fail
            refine (rValidAxis_is z1 z2 Z3 SS.out HQ).mono ?_; rintro e w1 ⟨rfl, hb1⟩
            have B1 := box (B0.out.trans (hb1.mono hs0))
            clear hb1 c0 c1
            go_wp2
            go_ret
            exact ⟨by rw [HN.out]; rfl, B1.out⟩
          · have HQ := box (show validA (L[j].1, L[j].2) = true from hv)
            have HVA := box hv
            clear hv
            go_wp2_with fail
            refine (rValidAxis_is z1 z2 Z3 SS.out HQ).mono ?_; rintro e w1 ⟨rfl, hb1⟩
            have B1 := box (B0.out.trans (hb1.mono hs0))
            clear hb1 c0 c1
            go_wp2
            go_loopw [4] (fun i wi => AvI L j w i wi) (fun i _ => j - (intOf i).toNat)
            case atStart => exact ⟨0, rfl, Nat.zero_le _, by unfold newA; simp, B1⟩
            case round =>
              obtain ⟨m, rfl, hm, hnew, B2⟩ := hrel
              have HNW := box hnew
              have hs2 := B2.out.size
              clear hnew
              by_cases hmj : m < j
              · have hmi : (m : Int) < (j : Int) := by omega
                have hml : (m : Int) < (L.length : Int) := by omega
                have hmlt : m < L.length := by omega
                obtain ⟨g', off', v', e, d0, _⟩ := (hF.out.below B2.out) j hlt
                cases e
                obtain ⟨g', off', v', e, d1, _⟩ := (hF.out.below B2.out) m hmlt
                cases e
                rcases hnq : (L[j].1.toList == L[m].1.toList) with _ | _
                · have HN2 : Box (newA L j (m + 1) = true) := box (by
                    have hx := ne_toList L[j].1 L[m].1
                    rw [hnq] at hx
                    rw [newA_more, HNW.out, atA_is hlt, atA_is hmlt, ← hx]; rfl)
                  go_wp2
                  go_quiet (fail)
                  go_wp2
                  go_roundw
                  case rel => exact ⟨m + 1, by go_num, by omega, HN2.out, box (B2.out.trans ((below_drewN _ _).mono hs2))⟩
                  case measure => simp [intOf]; omega
                · have HN2 : Box (validX L = false) := box (by
                    rw [HV.out]
                    refine axes_no hlt ?_
                    rw [newA_no hmj (by rw [atA_is hlt, atA_is hmlt]; exact str_eq hnq), Bool.and_false])
                  go_wp2
                  go_quiet (fail)
                  go_wp2
                  go_ret
                  exact ⟨by rw [HN2.out]; rfl, B2.out.trans ((below_drewN _ _).mono hs2)⟩
              · have hmi : ¬ (m : Int) < (j : Int) := by omega
                have hmj2 : m = j := by omega
                have HN2 : Box (axesV L (j + 1) = true) := box (by
                  have := HNW.out
                  rw [hmj2] at this
                  rw [axesV_more, HA.out, atA_is hlt, HVA.out, this]; rfl)
                clear hmj2
                go_wp2
                go_roundw
                case rel => exact ⟨j + 1, by go_num, by omega, HN2.out, B2⟩
                case measure => simp [intOf]; omega
        · have hji : ¬ (j : Int) < (L.length : Int) := by omega
          have hjl : j = L.length := by omega
          have HN : Box (validX L = true) := box (by rw [HV.out, ← hjl]; exact HA.out)
          clear hjl
          go_wp2
          go_ret
          exact ⟨by rw [HN.out]; rfl, B0.out⟩
    · have i2 : (4 : Int) < (L.length : Int) := by omega
      have HV : Box (validX L = false) := box (by unfold validX; rw [decide_eq_false h2]; simp)
      go_enter Tryz.func23, Tryz.ntmps23
      go_wp2
      go_ret
      exact ⟨by rw [HV.out]; rfl, Below.refl _ _⟩
  · have i1 : (L.length : Int) < 1 := by omega
    have HV : Box (validX L = false) := box (by unfold validX; rw [decide_eq_false h1]; simp)
    go_enter Tryz.func23, Tryz.ntmps23
    go_wp2
    go_ret
    exact ⟨by rw [HV.out]; rfl, Below.refl _ _⟩
end
section
open Go.RowKit
theorem byte_neq {c d : UInt8} : ((c.toNat : Int) != (d.toNat : Int)) = (c != d) := by
  by_cases h : c = d
  · subst h; simp
  · rw [bne_iff_ne.2 h, bne_iff_ne]
    intro e
    exact h (UInt8.toNat_inj.mp (by omega))
theorem rPlain_any (c : UInt8) (w : World) :
    Calls Tryz.prog 111 #[.int .u8 (c.toNat : Int)] w fun e w' => e = .returned (.bool (plainC c)) ∧ w = w' := by
  have e32 : (c != 32) = ((c.toNat : Int) != 32) := (byte_neq (c := c) (d := 32)).symm
  have e9 : (c != 9) = ((c.toNat : Int) != 9) := (byte_neq (c := c) (d := 9)).symm
  have e40 : (c != 40) = ((c.toNat : Int) != 40) := (byte_neq (c := c) (d := 40)).symm
  have e41 : (c != 41) = ((c.toNat : Int) != 41) := (byte_neq (c := c) (d := 41)).symm
  have e44 : (c != 44) = ((c.toNat : Int) != 44) := (byte_neq (c := c) (d := 44)).symm
  have e34 : (c != 34) = ((c.toNat : Int) != 34) := (byte_neq (c := c) (d := 34)).symm
  obtain ⟨q, hq⟩ : ∃ q, plainC c = q := ⟨_, rfl⟩
  have HQ := box hq
  unfold plainC at hq
  rw [e32, e9, e40, e41, e44, e34] at hq
  rw [HQ.out]
  clear e32 e9 e40 e41 e44 e34
  rcases t32 : ((c.toNat : Int) != 32) with _ | _
  · obtain rfl : q = false := by rw [← hq, t32]; simp
    clear hq
    go_enter Tryz.func111, Tryz.ntmps111
    go_wp2
    go_ret
    exact ⟨rfl, rfl⟩
  · skip
    rcases t9 : ((c.toNat : Int) != 9) with _ | _
    · obtain rfl : q = false := by rw [← hq, t32, t9]; simp
      clear hq
      go_enter Tryz.func111, Tryz.ntmps111
      go_wp2
      go_ret
      exact ⟨rfl, rfl⟩
    · skip
      rcases t40 : ((c.toNat : Int) != 40) with _ | _
      · obtain rfl : q = false := by rw [← hq, t32, t9, t40]; simp
        clear hq
        go_enter Tryz.func111, Tryz.ntmps111
        go_wp2
        go_ret
        exact ⟨rfl, rfl⟩
      · skip
        rcases t41 : ((c.toNat : Int) != 41) with _ | _
        · obtain rfl : q = false := by rw [← hq, t32, t9, t40, t41]; simp
          clear hq
          go_enter Tryz.func111, Tryz.ntmps111
          go_wp2
          go_ret
          exact ⟨rfl, rfl⟩
        · skip
          rcases t44 : ((c.toNat : Int) != 44) with _ | _
          · obtain rfl : q = false := by rw [← hq, t32, t9, t40, t41, t44]; simp
            clear hq
            go_enter Tryz.func111, Tryz.ntmps111
            go_wp2
            go_ret
            exact ⟨rfl, rfl⟩
          · skip
            rcases t34 : ((c.toNat : Int) != 34) with _ | _
            · obtain rfl : q = false := by rw [← hq, t32, t9, t40, t41, t44, t34]; simp
              clear hq
              go_enter Tryz.func111, Tryz.ntmps111
              go_wp2
              go_ret
              exact ⟨rfl, rfl⟩
            · obtain rfl : q = true := by rw [← hq, t32, t9, t40, t41, t44, t34]; rfl
              clear hq
              go_enter Tryz.func111, Tryz.ntmps111
              go_wp2
              go_ret
              exact ⟨rfl, rfl⟩
theorem rPlain_is {c : UInt8} {b : Bool} {w : World} (h : Box (plainC c = b)) :
    Calls Tryz.prog 111 #[.int .u8 (c.toNat : Int)] w fun e w' => e = .returned (.bool b) ∧ w = w' :=
  (rPlain_any c w).mono fun e w' ⟨h1, h2⟩ => ⟨by rw [h1, h.out], h2⟩
end
section
open Go.RowKit
theorem heap_lt {w : World} {b : Nat} {o : Obj} (h : w.heap[b]? = some o) : b < w.heap.size := by
  rcases Nat.lt_or_ge b w.heap.size with q | q
  · exact q
  · rw [Array.getElem?_eq_none q] at h; cases h
theorem info_axis : (Tryz.prog.info? 39).map (fun i => (i.zero, i.size, i.bytes)) = some (some (.agg #[.string ⟨#[]⟩, .slice none 0 0]), 2, 40) := by kernel_rfl
/-- the cells of the axes L, the values' lists owned, too -/
def CellsA (w : World) (B : Nat) (cs : List Value) (L : List AX) : Prop :=
  cs.length = 2 * L.length ∧ (∀ u ∈ cs, u.oneCell' = true) ∧ ∀ i (h : i < L.length), cs[i * 2]? = some (.string L[i].1) ∧ ∃ u, cs[i * 2 + 1]? = some u ∧ OwnS w B u L[i].2
def OwnAx (w : World) (B : Nat) (v : Value) (L : List AX) : Prop := ∃ cs, w.ownsRow B 39 2 v L.length cs ∧ CellsA w B cs L
theorem OwnS.ssv {w : World} {B : Nat} {v : Value} {V : List ByteArray} (h : OwnS w B v V) : SsV w v V := by
  obtain ⟨a, c, e, hs, hc⟩ := h.ss
  exact ⟨a, c, e, hs, hc⟩
theorem OwnAx.nil (w : World) (B : Nat) : OwnAx w B (.slice none 0 0) [] := ⟨[], World.ownsRow_nil _ _ _ _, rfl, by simp, fun i h => absurd h (by simp)⟩
theorem CellsA.next {w w' : World} {B : Nat} {cs : List Value} {L : List AX} (h : CellsA w B cs L) (hb : Below w.heap.size w w') : CellsA w' B cs L :=
  ⟨h.1, h.2.1, fun i hi => by obtain ⟨h1, u, h2, h3⟩ := h.2.2 i hi; exact ⟨h1, u, h2, own_below h3 hb⟩⟩
theorem OwnAx.next {w w' : World} {B : Nat} {v : Value} {L : List AX} (h : OwnAx w B v L) (hb : Below w.heap.size w w') : OwnAx w' B v L := by
  obtain ⟨cs, h1, h2⟩ := h
  exact ⟨cs, own_below h1 hb, h2.next hb⟩
theorem OwnAx.axs {w : World} {B : Nat} {v : Value} {L : List AX} (h : OwnAx w B v L) : ∃ a cap, v = .slice a L.length cap ∧ Axs w a L ∧ L.length ≤ cap := by
  obtain ⟨cs, h, hC⟩ := h
  rcases h.2 with ⟨rfl, hn⟩ | ⟨g, cap, cur, rfl, hB, hg, hc, hm, hs, ht⟩
  · exact ⟨none, 0, by rw [hn], fun i hi => by omega, by omega⟩
  · refine ⟨_, cap, rfl, fun i hi => ?_, hc⟩
    obtain ⟨q0, u, q1, q2⟩ := hC.2.2 i hi
    have hl := hC.1
    rw [← ht] at q0 q1
    rw [List.getElem?_take] at q0 q1
    rw [if_pos (by omega)] at q0 q1
    refine ⟨g, 0, u, rfl, ?_, ?_, q2.ssv⟩
    · simp only [World.cell?, hg]; simpa using q0
    · simp only [World.cell?, hg]; simpa [Nat.add_assoc] using q1
theorem own_grown {w w' : World} {B n : Nat} {v u : Value} {cs : List Value} {V : List ByteArray} (hv : w.ownsRow B 39 2 v n cs) (hu : OwnS w B u V) (hg : w.grownBy w' v.ownBlock) : OwnS w' B u V := by
  refine ⟨hu.1, ?_⟩
  rcases hu.2 with q | ⟨g, cap, cur, hv2, hB, hgg, r⟩
  · exact .inl q
  · refine .inr ⟨g, cap, cur, hv2, hB, ?_, r⟩
    rw [hg.block g (heap_lt hgg) (fun e => ?_)]
    · exact hgg
    · rcases hv.2 with ⟨rfl, _⟩ | ⟨g2, cap2, cur2, rfl, _, hg2, _⟩
      · simp [Value.ownBlock] at e
      · simp [Value.ownBlock] at e
        subst e
        rw [hgg] at hg2
        simp at hg2
theorem CellsA.grown {w w' : World} {B n : Nat} {v : Value} {xs cs : List Value} {L : List AX} (h : CellsA w B cs L) (hv : w.ownsRow B 39 2 v n xs) (hg : w.grownBy w' v.ownBlock) : CellsA w' B cs L :=
  ⟨h.1, h.2.1, fun i hi => by obtain ⟨h1, u, h2, h3⟩ := h.2.2 i hi; exact ⟨h1, u, h2, own_grown hv h3 hg⟩⟩
theorem CellsA.more {w : World} {B : Nat} {cs : List Value} {L : List AX} {n : ByteArray} {u : Value} {V : List ByteArray} (h : CellsA w B cs L) (hu : OwnS w B u V) : CellsA w B (cs ++ [.string n, u]) (L ++ [(n, V)]) := by
  have hone : u.oneCell' = true := by obtain ⟨a, c, e, _⟩ := hu.ss; rw [e]; rfl
  refine ⟨by rw [List.length_append, List.length_append, h.1]; simp; omega, fun x hx => ?_, fun i hi => ?_⟩
  · rcases List.mem_append.1 hx with q | q
    · exact h.2.1 x q
    · simp at q
      rcases q with rfl | rfl
      · rfl
      · exact hone
  · by_cases e : i < L.length
    · obtain ⟨h1, y, h2, h3⟩ := h.2.2 i e
      have hl := h.1
      rw [List.getElem_append_left e, List.getElem?_append_left (by omega), List.getElem?_append_left (by omega)]
      exact ⟨h1, y, h2, h3⟩
    · have hie : i = L.length := by rw [List.length_append] at hi; simp at hi; omega
      subst hie
      have hl := h.1
      rw [List.getElem_append_right (Nat.le_refl _), List.getElem?_append_right (by omega), List.getElem?_append_right (by omega)]
      rw [show L.length * 2 - cs.length = 0 from by omega, show L.length * 2 + 1 - cs.length = 1 from by omega]
      simp only [Nat.sub_self]
      exact ⟨rfl, u, rfl, hu⟩
end
end Go.Proofs.YtklfpkaemnhdhaaGreatDoor.Asc
