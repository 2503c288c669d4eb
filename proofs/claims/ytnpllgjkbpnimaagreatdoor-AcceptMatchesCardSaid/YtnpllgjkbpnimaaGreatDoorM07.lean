/- Merged texts: AscDec AscRDec ParRef2 MedRef2. -/
import Derived.Test.YtnpllgjkbpnimaaGreatDoorM01
import Derived.Test.YtnpllgjkbpnimaaGreatDoorM02
import Derived.Test.YtnpllgjkbpnimaaGreatDoorM05
import Derived.Test.YtnpllgjkbpnimaaGreatDoorM06
import Derived.Laws.AppendOwnNone
import Derived.OwnWalk
set_option linter.unusedVariables false
set_option linter.unusedSimpArgs false
set_option maxRecDepth 100000
namespace Go.Proofs.YtnpllgjkbpnimaaGreatDoor.Asc
section
open Go.RowKit
def InI64 (n : Int) : Prop := -9223372036854775808 ≤ n ∧ n ≤ 9223372036854775807
theorem wrapu_pos {n : Int} (h : InI64 n) (h0 : 0 ≤ n) : IntKind.u64.wrap n = (n.natAbs : Int) := by
  unfold InI64 at h; rw [IntKind.wrap_u64]; omega
theorem wrapu_neg {n : Int} (h : InI64 n) (h0 : n < 0) : IntKind.u64.wrap (-IntKind.u64.wrap n) = (n.natAbs : Int) := by
  unfold InI64 at h; rw [IntKind.wrap_u64, IntKind.wrap_u64]; omega
theorem wrapu_div {N q : Nat} {acc : List UInt8} (h : DecAt N q acc) : IntKind.u64.wrap ((q : Int) / 10) = (q : Int) / 10 := by
  have h2 := h.2.1
  have h3 : q ≤ q * 10 ^ acc.length := Nat.le_mul_of_pos_right _ (Nat.pow_pos (by omega))
  rw [IntKind.wrap_u64]; omega
theorem slice_buf (g p : Nat) (x : Int) (w : World) (hx : x = (p : Int)) (h2 : p < 20) :
    (Instr.sliceAt 93 (.pointer (some ⟨g, 0, none⟩)) (some (.int .i64 x)) none none).run Tryz.prog w = .ok (.slice (some ⟨g, p, none⟩) (20 - p) (20 - p)) w := by
  have e : Tryz.prog.arrayLen 93 = 20 := by kernel_rfl
  have e2 : Tryz.prog.elem 93 = 5 := by kernel_rfl
  have hs : (sizeOf 5).run Tryz.prog w = .ok 1 w := by kernel_rfl
  have h := run_sliceAt_array_l (P := Tryz.prog) w 93 ⟨g, 0, none⟩ (by kernel_rfl) .i64 x (by omega) (by rw [e]; omega)
  rw [h, e, e2, hs]
  have e3 : x.toNat = p := by omega
  simp only [Result.andThen, slicedAt, e3]
  rw [if_neg (by omega)]
  have e4 : (⟨g, 0, none⟩ : Addr).add (p * 1) = ⟨g, p, none⟩ := by unfold Addr.add; split <;> simp_all
  rw [e4]
theorem buf_start (w : World) : Bys (w.alloc (.cells (Array.replicate 20 (.int .u8 0)) 93)) w.heap.size (zbuf 20 []) := by
  refine ⟨by simp, fun j hj => ?_⟩
  simp only [zbuf, List.append_nil, List.length_replicate] at hj ⊢
  refine ⟨?_, by go_simp⟩
  rw [World.cell?_alloc_at (hn := rfl), Array.getElem?_replicate, if_pos hj]
  rw [getD_get _ _ (by simpa using hj), List.getElem_replicate]; rfl
/-- 'string(buffer[p:])' -/
theorem str_buf (g p : Nat) (acc : List UInt8) (w : World) (h : Bys w g (zbuf p acc)) (hp : acc.length + p = 20) :
    (convert 70 9 (.slice (some ⟨g, p, none⟩) (20 - p) (20 - p))).run Tryz.prog w = .ok (.string ⟨acc.toArray⟩) w := by
  have e : 20 - p = acc.length := by omega
  rw [e]
  refine run_convert_bytes_back w 70 9 5 ⟨g, p, none⟩ acc.length acc Tryz.underlying70 Tryz.underlying5 Tryz.underlying9 fun j hj => ?_
  have hc := h.cell (j := p + j) (by simp [zbuf]; omega)
  have ea : (⟨g, p, none⟩ : Addr).add j = ⟨g, p + j, none⟩ := by unfold Addr.add; split <;> simp_all
  rw [ea, hc]
  have : (zbuf p acc).getD (p + j) 0 = acc[j] := by
    simp only [zbuf, List.getD_eq_getElem?_getD]
    rw [List.getElem?_append_right (by simp)]; simp [hj]
  rw [this]; rfl
theorem Decimal_pos (n : Int) (w : World) (h0 : 0 ≤ n) (h1 : InI64 n) :
    Calls Tryz.prog 66 #[.int .i64 n] w fun e w' => e = .returned (.string ⟨(decL n).toArray⟩) ∧ Below w.heap.size w w' := by
  have H1 := Lib.hid h1
  clear h1
  go_enter Tryz.func66, Tryz.ntmps66
  go_wp2
  go_loopw [3, 5] (fun m i wr => ∃ (q p : Nat) (acc : List UInt8), m = .int .u64 q ∧ i = .int .i64 p ∧ acc.length + p = 20 ∧ Bys wr w.heap.size (zbuf p acc) ∧ DecAt n.natAbs q acc ∧ Below w.heap.size w wr) (fun _ i _ => (intOf i).toNat)
  case atStart =>
    refine ⟨_, 20, [], by rw [wrapu_pos H1.out h0], rfl, rfl, ?_, DecAt.start (by have := H1.out; unfold InI64 at this; omega), (Below.refl _ _).alloc (Nat.le_refl _) _⟩
    exact buf_start w
  case round =>
    obtain ⟨q, p, acc, rfl, rfl, hp, hB, hD, hbel⟩ := hrel
    have hl := hD.len
    have hp1 : 2 ≤ p := by omega
    have hp2 : p ≤ 20 := by omega
    have HP := Lib.hid hp
    obtain ⟨cv, hc⟩ : ∃ cv, wr.cell? ⟨w.heap.size, p - 1, none⟩ = some cv := ⟨_, hB.cell (by simp [zbuf]; omega)⟩
    have hf : wr.frozen? ⟨w.heap.size, p - 1, none⟩ = false := hB.frozen (by simp [zbuf]; omega)
    have hset := hB.set (k := p - 1) (by simp [zbuf]; omega) (digB q)
    rw [zbuf_set _ (by omega), bv, dig_toNat] at hset
    have HS := Lib.hid hset
    have hbs := Lib.hid (hbel.setCell (p := ⟨w.heap.size, p - 1, none⟩) (Nat.le_refl _) (.int .u8 (48 + (q : Int) % 10)))
    have hw := wrapu_div hD
    have hsl := fun wx => slice_buf w.heap.size (p - 1) ((p : Int) - 1) wx (by omega) (by omega)
    clear hp hset
    by_cases hm : q / 10 = 0
    · have hst := str_buf _ _ _ _ HS.out (by have := HP.out; simp; omega)
      have hm' : ((q : Int) / 10 == 0) = true := by simp; omega
      have HF := Lib.hid (hD.fin hm)
      clear hm
      go_wp2
      go_ret
      exact ⟨by rw [decL, if_neg (by omega), HF.out]; rfl, hbs.out⟩
    · have hm' : ((q : Int) / 10 == 0) = false := by simp; omega
      have HF := Lib.hid (hD.step hm)
      clear hm
      go_wp2
      go_roundw
      case rel => exact ⟨q / 10, p - 1, _, by go_num, by go_num, by have := HP.out; simp; omega, HS.out, HF.out, hbs.out⟩
      case measure => simp [intOf]; omega
theorem Decimal_neg (n : Int) (w : World) (h0 : n < 0) (h1 : InI64 n) :
    Calls Tryz.prog 66 #[.int .i64 n] w fun e w' => e = .returned (.string ⟨(decL n).toArray⟩) ∧ Below w.heap.size w w' := by
  have H1 := Lib.hid h1
  clear h1
  go_enter Tryz.func66, Tryz.ntmps66
  go_wp2
  go_loopw [3, 5] (fun m i wr => ∃ (q p : Nat) (acc : List UInt8), m = .int .u64 q ∧ i = .int .i64 p ∧ acc.length + p = 20 ∧ Bys wr w.heap.size (zbuf p acc) ∧ DecAt n.natAbs q acc ∧ Below w.heap.size w wr) (fun _ i _ => (intOf i).toNat)
  case atStart =>
    refine ⟨_, 20, [], by rw [wrapu_neg H1.out h0], rfl, rfl, ?_, DecAt.start (by have := H1.out; unfold InI64 at this; omega), (Below.refl _ _).alloc (Nat.le_refl _) _⟩
    exact buf_start w
  case round =>
    obtain ⟨q, p, acc, rfl, rfl, hp, hB, hD, hbel⟩ := hrel
    have hl := hD.len
    have hp1 : 2 ≤ p := by omega
    have hp2 : p ≤ 20 := by omega
    have HP := Lib.hid hp
    obtain ⟨cv, hc⟩ : ∃ cv, wr.cell? ⟨w.heap.size, p - 1, none⟩ = some cv := ⟨_, hB.cell (by simp [zbuf]; omega)⟩
    have hf : wr.frozen? ⟨w.heap.size, p - 1, none⟩ = false := hB.frozen (by simp [zbuf]; omega)
    have hset := hB.set (k := p - 1) (by simp [zbuf]; omega) (digB q)
    rw [zbuf_set _ (by omega), bv, dig_toNat] at hset
    have HS := Lib.hid hset
    have hbs := Lib.hid (hbel.setCell (p := ⟨w.heap.size, p - 1, none⟩) (Nat.le_refl _) (.int .u8 (48 + (q : Int) % 10)))
    have hw := wrapu_div hD
    have hsl := fun wx => slice_buf w.heap.size (p - 1) ((p : Int) - 1) wx (by omega) (by omega)
    clear hp hset
    by_cases hm : q / 10 = 0
    · obtain ⟨cv2, hc2⟩ : ∃ cv, (wr.setCell ⟨w.heap.size, p - 1, none⟩ (.int .u8 (48 + (q : Int) % 10))).cell? ⟨w.heap.size, p - 1 - 1, none⟩ = some cv := ⟨_, HS.out.cell (by simp [zbuf]; omega)⟩
      have hf2 : wr.frozen? ⟨w.heap.size, p - 1 - 1, none⟩ = false := hB.frozen (by simp [zbuf]; omega)
      have hset2 := HS.out.set (k := p - 1 - 1) (by simp [zbuf]; omega) 45
      rw [zbuf_set _ (by omega), show bv 45 = .int .u8 45 from rfl] at hset2
      have hst := str_buf _ _ _ _ hset2 (by have := HP.out; simp; omega)
      have hbs2 := Lib.hid (hbs.out.setCell (p := ⟨w.heap.size, p - 1 - 1, none⟩) (Nat.le_refl _) (.int .u8 45))
      have hsl := fun wx => slice_buf w.heap.size (p - 1 - 1) ((p : Int) - 1 - 1) wx (by omega) (by omega)
      clear hset2
      have hm' : ((q : Int) / 10 == 0) = true := by simp; omega
      have HF := Lib.hid (hD.fin hm)
      clear hm
      go_wp2
      go_ret
      exact ⟨by rw [decL, if_pos (by omega), HF.out]; rfl, hbs2.out⟩
    · have hm' : ((q : Int) / 10 == 0) = false := by simp; omega
      have HF := Lib.hid (hD.step hm)
      clear hm
      go_wp2
      go_roundw
      case rel => exact ⟨q / 10, p - 1, _, by go_num, by go_num, by have := HP.out; simp; omega, HS.out, HF.out, hbs.out⟩
      case measure => simp [intOf]; omega
theorem Decimal_any (n : Int) (w : World) (h1 : InI64 n) :
    Calls Tryz.prog 66 #[.int .i64 n] w fun e w' => e = .returned (.string ⟨(decL n).toArray⟩) ∧ Below w.heap.size w w' := by
  by_cases h : 0 ≤ n
  · exact Decimal_pos n w h h1
  · exact Decimal_neg n w (by omega) h1
end
section
open Go.RowKit
/-- append of the bytes of a slice of the call's own, nil or not -/
theorem wpList_append_bytes (w : World) {ops : Array Oper} {rest : List Oper} {o : Oper} {a : Act} {Q : Exit → Act → World → Prop} (hgd : o.guard = none) (s x : Operand)
    (ho : o.op = .call { callee := .builtin .append, args := #[s, x], argTypes := #[70, 70] })
    (B : Nat) (v : Value) (l : List UInt8) (hs : a.eval s = v) (hown : Own w B v l)
    (v2 : Value) (l2 : List UInt8) (hx : a.eval x = v2) (hown2 : Own w B v2 l2) (hl : l.length + l2.length < 8589934592) (hB : B ≤ w.heap.size)
    (h : ∀ v' w', Own w' B v' (l ++ l2) → Below B w w' → wpList Tryz.prog ops Q rest (a.put o.dst v') w') : wpList Tryz.prog ops Q (o :: rest) a w := by
  obtain ⟨i0, hi0, hz0, hz1, hz2⟩ := info_parts info_u8
  rcases hown2.2 with ⟨rfl, hn⟩ | ⟨g, cap, cur, rfl, hb, hh, hnc, hcm, hcs, htake⟩
  · have e : l2 = [] := by simpa using hn
    subst e
    refine wpList_append_own_none (P := Tryz.prog) (w := w) hgd s x 70 ho B 5 i0 1 Tryz.underlying70 hi0 v l.length (l.map bv) hs hown hx ?_
    exact h v w (by simpa using hown) (Below.refl _ _)
  · refine wpList_append_own (P := Tryz.prog) w hgd s x 70 ho B 5 i0 _ 1 1 Tryz.underlying70 hi0 hz0 hz1 hz2 rfl (by decide) v l.length (l.map bv) hs hown ⟨g, 0, none⟩ l2.length cap (l2.map bv) hx (by simp) ?_ (bv_oneCell l2) (by unfold maxLen; omega) (by omega) hB ?_
    · intro j u hj
      have ea : (⟨g, 0, none⟩ : Addr).add j = ⟨g, j, none⟩ := by unfold Addr.add; split <;> simp_all
      have hj' := (List.getElem?_eq_some_iff.1 hj).1
      rw [ea, World.ownsRow.cellAt hown2 j (by simpa using hj')]; exact hj
    · intro v' w' h1 h2 _
      exact h v' w' (by simpa [Own] using h1) ((Below.refl _ _).grown h2 hB (fun k hk => Own.block hown k hk))
/-- how far the digits have come -/
def RDec (N m : Nat) (acc : List UInt8) : Prop := DecAt N m acc ∨ (m = 0 ∧ 1 ≤ acc.length ∧ acc.length ≤ 19 ∧ decF 20 N [] = acc)
theorem RDec.next {N m : Nat} {acc : List UInt8} (h : DecAt N m acc) : RDec N (m / 10) (digB m :: acc) := by
  by_cases hm : m / 10 = 0
  · have := h.len
    exact .inr ⟨hm, by simp, by simp; omega, h.fin hm⟩
  · exact .inl (h.step hm)
theorem Own.fresh (w : World) (B : Nat) (d : UInt8) (b : Int) (hb : b = (d.toNat : Int)) (hB : B ≤ w.heap.size) : Own (w.alloc (.cells #[.int .u8 b] 5)) B (.slice (some ⟨w.heap.size, 0, none⟩) 1 1) [d] := by
  subst hb
  exact ⟨rfl, .inr ⟨_, _, _, rfl, hB, heap_alloc_new w _, Nat.le_refl _, by unfold maxLen; omega, rfl, rfl⟩⟩
theorem wrap_div {N m : Nat} {acc : List UInt8} (h : DecAt N m acc) : wrap64 ((m : Int) / 10) = (m : Int) / 10 := by
  have h2 := h.2.1
  have h3 : m ≤ m * 10 ^ acc.length := Nat.le_mul_of_pos_right _ (Nat.pow_pos (by omega))
  exact IntWalk.wrap64_in _ (by omega)
theorem wrap_ndiv {N m : Nat} {acc : List UInt8} (h : DecAt N m acc) : wrap64 (-((m : Int) / 10)) = -((m : Int) / 10) := by
  have h2 := h.2.1
  have h3 : m ≤ m * 10 ^ acc.length := Nat.le_mul_of_pos_right _ (Nat.pow_pos (by omega))
  exact IntWalk.wrap64_in _ (by omega)
theorem RDec.step {N m : Nat} {acc : List UInt8} (h : DecAt N m acc) : Hid (RDec N (m / 10) (digB m :: acc)) := Lib.hid (RDec.next h)
theorem rDecimal_pos (n : Int) (w : World) (h0 : 0 ≤ n) (h1 : InI64 n) :
    Calls Tryz.prog 44 #[.int .i64 n] w fun e w' => e = .returned (.string ⟨(decL n).toArray⟩) ∧ Below w.heap.size w w' := by
  obtain ⟨N, rfl⟩ := Int.eq_ofNat_of_zero_le h0
  have H1 := Lib.hid h1
  clear h1
  go_enter Tryz.func44, Tryz.ntmps44
  go_wp2
  go_loopw [0, 3, 5, 6] (fun n b k _ wr => ∃ (m : Nat) (acc : List UInt8), n = .int .i64 m ∧ k = .int .i64 acc.length ∧ Own wr w.heap.size b acc ∧ Hid (RDec N m acc) ∧ Below w.heap.size w wr) (fun n _ k _ _ => 20 - (intOf k).toNat)
  case atStart => exact ⟨N, [], rfl, rfl, Own.nil _ _, Lib.hid (.inl (DecAt.start (by have := H1.out; unfold InI64 at this; omega))), Below.refl _ _⟩
  case round =>
    obtain ⟨m, acc, rfl, rfl, hO, hR, hbel⟩ := hrel
    rcases hR.out with hD | ⟨rfl, ha1, ha2, ha3⟩
    · have hlen := hD.len
      have HD := Lib.hid hD
      have hw := wrap_div hD
      have HN := RDec.step hD
      clear hD
      by_cases hm : m = 0
      · have hm1 : ((m : Int) != 0) = false := by simp [hm]
        have hm2 : ((acc.length : Int) == 0) = true := by rcases HD.out.2.2 with h | h <;> simp [h] ; omega
        clear hm
        go_wp2_with (at_builtin; refine wpList_append_bytes _ rfl _ _ rfl w.heap.size _ [digB m] rfl (Own.fresh _ _ _ _ (dig_toNat m).symm hbel.size) _ acc rfl (hO.alloc _) (by simp; omega) (by have := hbel.size; simp; omega) ?_; intro v' w1 hO1 hb1)
        go_roundw
        case rel => exact ⟨m / 10, digB m :: acc, by go_num, by go_num, hO1, HN, (hbel.alloc hbel.size _).trans hb1⟩
        case measure => simp [intOf]; omega
      · have hm1 : ((m : Int) != 0) = true := by simp [hm]
        clear hm
        go_wp2_with (at_builtin; refine wpList_append_bytes _ rfl _ _ rfl w.heap.size _ [digB m] rfl (Own.fresh _ _ _ _ (dig_toNat m).symm hbel.size) _ acc rfl (hO.alloc _) (by simp; omega) (by have := hbel.size; simp; omega) ?_; intro v' w1 hO1 hb1)
        go_roundw
        case rel => exact ⟨m / 10, digB m :: acc, by go_num, by go_num, hO1, HN, (hbel.alloc hbel.size _).trans hb1⟩
        case measure => simp [intOf]; omega
    · have hst := hO.str
      have hm2 : ((acc.length : Int) == 0) = false := by simp; intro h; simp [h] at ha1
      have HA := Lib.hid ha3
      clear ha3
      go_wp2
      go_ret
      exact ⟨by rw [decL, if_neg (by omega), show ((N : Int)).natAbs = N from rfl, HA.out]; rfl, hbel⟩
theorem rDecimal_neg (N : Nat) (w : World) (h0 : 1 ≤ N) (h1 : InI64 (-(N : Int))) :
    Calls Tryz.prog 44 #[.int .i64 (-(N : Int))] w fun e w' => e = .returned (.string ⟨(decL (-(N : Int))).toArray⟩) ∧ Below w.heap.size w w' := by
  have H1 := Lib.hid h1
  clear h1
  go_enter Tryz.func44, Tryz.ntmps44
  go_wp2
  go_loopw [0, 3, 5, 6] (fun n b k _ wr => ∃ (m : Nat) (acc : List UInt8), n = .int .i64 (-(m : Int)) ∧ k = .int .i64 acc.length ∧ Own wr w.heap.size b acc ∧ Hid (RDec N m acc) ∧ Below w.heap.size w wr) (fun n _ k _ _ => 20 - (intOf k).toNat)
  case atStart => exact ⟨N, [], rfl, rfl, Own.nil _ _, Lib.hid (.inl (DecAt.start (by have := H1.out; unfold InI64 at this; omega))), Below.refl _ _⟩
  case round =>
    obtain ⟨m, acc, rfl, rfl, hO, hR, hbel⟩ := hrel
    rcases hR.out with hD | ⟨rfl, ha1, ha2, ha3⟩
    · have hlen := hD.len
      have HD := Lib.hid hD
      have hw := wrap_ndiv hD
      have HN := RDec.step hD
      clear hD
      by_cases hm : m = 0
      · have hm1 : (-(m : Int) != 0) = false := by simp [hm]
        have hm2 : ((acc.length : Int) == 0) = true := by rcases HD.out.2.2 with h | h <;> simp [h] ; omega
        have hd : ¬ 0 < (m : Int) % 10 := by omega
        clear hm
        go_wp2_with (at_builtin; refine wpList_append_bytes _ rfl _ _ rfl w.heap.size _ [digB m] rfl (Own.fresh _ _ _ _ (by have := dig_toNat m; omega) hbel.size) _ acc rfl (hO.alloc _) (by simp; omega) (by have := hbel.size; simp; omega) ?_; intro v' w1 hO1 hb1)
        go_roundw
        case rel => exact ⟨m / 10, digB m :: acc, by go_num, by go_num, hO1, HN, (hbel.alloc hbel.size _).trans hb1⟩
        case measure => simp [intOf]; omega
      · have hm1 : (-(m : Int) != 0) = true := by simp [hm]
        clear hm
        by_cases hd : 0 < (m : Int) % 10
        all_goals
          go_wp2_with (at_builtin; refine wpList_append_bytes _ rfl _ _ rfl w.heap.size _ [digB m] rfl (Own.fresh _ _ _ _ (by have := dig_toNat m; omega) hbel.size) _ acc rfl (hO.alloc _) (by simp; omega) (by have := hbel.size; simp; omega) ?_; intro v' w1 hO1 hb1)
          go_roundw
          case rel => exact ⟨m / 10, digB m :: acc, by go_num, by go_num, hO1, HN, (hbel.alloc hbel.size _).trans hb1⟩
          case measure => simp [intOf]; omega
    · have hst := hO.str
      have hm2 : ((acc.length : Int) == 0) = false := by simp; intro h; simp [h] at ha1
      have HA := Lib.hid ha3
      clear ha3
      go_wp2
      go_ret
      exact ⟨by rw [decL, if_pos (by omega), show (-(N : Int)).natAbs = N from by omega, HA.out]; rfl, hbel⟩
theorem rDecimal_any (n : Int) (w : World) (h1 : InI64 n) :
    Calls Tryz.prog 44 #[.int .i64 n] w fun e w' => e = .returned (.string ⟨(decL n).toArray⟩) ∧ Below w.heap.size w w' := by
  by_cases h : 0 ≤ n
  · exact rDecimal_pos n w h h1
  · obtain ⟨N, rfl⟩ : ∃ N : Nat, n = -(N : Int) := ⟨n.natAbs, by omega⟩
    exact rDecimal_neg N w (by omega) h1
end
section
open Go.RowKit
theorem escL_len : ∀ l : List UInt8, (escL l).length ≤ 2 * l.length
  | [] => by simp [escL]
  | c :: r => by
    have ih := escL_len r
    have e : escL (c :: r) = escB c ++ escL r := rfl
    have h1 : (escB c).length ≤ 2 := by unfold escB; split <;> simp
    rw [e, List.length_append, List.length_cons]; omega
theorem val_len (l : List UInt8) : (valP l).length ≤ 2 * l.length + 2 := by
  unfold valP quoteL
  have := escL_len l
  split
  · omega
  · rw [List.length_cons, List.length_append]; simp only [List.length_cons, List.length_nil]; omega
theorem fmt_more {v : List UInt8} {L : List F} {k : Nat} (h : k < L.length) : fmtPL v (L.take (k + 1)) = fmtPL v (L.take k) ++ 59 :: oneP L[k] := by
  unfold fmtPL; rw [take_next h, List.flatMap_append, ← List.append_assoc]; simp
def fmtPB (v : ByteArray) (L : List F) : ByteArray := bs (fmtPL v.data.toList L)
end
section
open Go.RowKit
theorem rRange_is {s : ByteArray} {a b : ByteArray} {L : List F} {q : Bool} {w : World} (hs : s.size ≤ 65000) (h : Box (ofM (rangeL s.data.toList) = (a, b, L) ∧ (rangeL s.data.toList).isSome = q)) :
    Calls Tryz.prog 13 #[.string s] w fun e w' => ∃ p cap, e = .returned (.tuple #[.agg #[.string a, .string b, .slice p L.length cap], .bool q]) ∧ OwnP w' w.heap.size (.slice p L.length cap) L ∧ Below w.heap.size w w' :=
  (rRange_any s w hs).mono fun e w' ⟨v, h1, h2, h3⟩ => by
    rw [h.out.1] at h1 h2
    rw [h.out.2] at h1
    obtain ⟨p, cap, rfl, _, _⟩ := h2.fs
    exact ⟨p, cap, h1, h2, h3⟩
theorem media_cases (l : List UInt8) : mediaL l = if (rangeL l).isSome = true then (if (ofM (rangeL l)).1 = star ∨ (ofM (rangeL l)).2.1 = star then none else some (ofM (rangeL l))) else none := by
  unfold mediaL ofM
  cases h : rangeL l with
  | none => rfl
  | some x => obtain ⟨a, b, L⟩ := x; rfl
theorem star_eq {x : ByteArray} {b : Bool} (h : (x.toList == [42]) = b) : x = star ↔ b = true := by
  rw [← star_is h]
  constructor
  · intro e; rw [e]; rfl
  · intro e; rw [bs_of x, e]; rfl
set_option maxHeartbeats 1000000 in
theorem rMedia_any (s : ByteArray) (w : World) (hs : s.size ≤ 65000) :
    Calls Tryz.prog 14 #[.string s] w fun e w' => medW w w' (mediaL s.data.toList) e := by
  obtain ⟨⟨a, b, L⟩, hM⟩ : ∃ m, ofM (rangeL s.data.toList) = m := ⟨_, rfl⟩
  obtain ⟨q, hq⟩ : ∃ q, (rangeL s.data.toList).isSome = q := ⟨_, rfl⟩
  have H := box (And.intro hM hq)
  have HC := media_cases s.data.toList
  rw [hM, hq] at HC
  clear hM hq
  rcases q with _ | _
  · have HR : Box (mediaL s.data.toList = none) := box (by rw [HC]; rfl)
    clear HC
    go_enter Tryz.func14, Tryz.ntmps14
    go_wp2_with fail
    refine (rRange_is hs H).mono ?_; rintro e w1 ⟨p, cap, rfl, hO1, hb1⟩
    have C1 := box (((C3.new (.string ⟨#[]⟩) (.string ⟨#[]⟩) (.slice none 0 0) w 33).next hb1).next (below_new w1 (.cells #[.string a, .string b, .slice p L.length cap] 33)))
    have B1 := box (((below_new w _).trans (hb1.mono (below_new w _).size)).alloc ((below_new w _).trans (hb1.mono (below_new w _).size)).size (.cells #[.string a, .string b, .slice p L.length cap] 33))
    clear hO1 hb1
    obtain ⟨⟨r0, r1, r2⟩, ⟨f0, f1, f2⟩⟩ := C1.out
    go_wp2
    (try simp only [Exit.inBlock, Exit.then])
    refine bodyPost_ret (v := .tuple #[.agg #[.string ⟨#[]⟩, .string ⟨#[]⟩, .slice none 0 0], .bool false]) (by rw [results_cell_tmp rfl]; go_simp) rfl ?_
    exact medW_none HR (below3 B1.out (Nat.le_refl _) _ _ _)
  · rcases h1 : (a.toList == [42]) with _ | _
    · rcases h2 : (b.toList == [42]) with _ | _
      · have HR : Box (mediaL s.data.toList = some (a, b, L)) := box (by
          rw [HC, if_pos rfl, if_neg (by
            rintro (e | e)
            · have := (star_eq h1).mp e; simp at this
            · have := (star_eq h2).mp e; simp at this)])
        clear HC
        go_enter Tryz.func14, Tryz.ntmps14
        go_wp2_with fail
        refine (rRange_is hs H).mono ?_; rintro e w1 ⟨p, cap, rfl, hO1, hb1⟩
        have C1 := box (((C3.new (.string ⟨#[]⟩) (.string ⟨#[]⟩) (.slice none 0 0) w 33).next hb1).next (below_new w1 (.cells #[.string a, .string b, .slice p L.length cap] 33)))
        have B1 := box (((below_new w _).trans (hb1.mono (below_new w _).size)).alloc ((below_new w _).trans (hb1.mono (below_new w _).size)).size (.cells #[.string a, .string b, .slice p L.length cap] 33))
        have O1 := box (own_below hO1 (below_new w1 (.cells #[.string a, .string b, .slice p L.length cap] 33)))
        clear hO1 hb1
        obtain ⟨⟨r0, r1, r2⟩, ⟨f0, f1, f2⟩⟩ := C1.out
        go_wp2
        (try simp only [Exit.inBlock, Exit.then])
        refine bodyPost_ret (v := .tuple #[.agg #[.string a, .string b, .slice p L.length cap], .bool true]) (by rw [results_cell_tmp rfl]; go_simp) rfl ?_
        exact medW_some HR (own_le (own_only O1.out (only3 _ _ _ _ _) (by simp)) (by simp)) (below3 B1.out (Nat.le_refl _) _ _ _)
      · have HR : Box (mediaL s.data.toList = none) := box (by rw [HC, if_pos rfl, if_pos (.inr ((star_eq h2).mpr rfl))])
        clear HC
        go_enter Tryz.func14, Tryz.ntmps14
        go_wp2_with fail
        refine (rRange_is hs H).mono ?_; rintro e w1 ⟨p, cap, rfl, hO1, hb1⟩
        have C1 := box (((C3.new (.string ⟨#[]⟩) (.string ⟨#[]⟩) (.slice none 0 0) w 33).next hb1).next (below_new w1 (.cells #[.string a, .string b, .slice p L.length cap] 33)))
        have B1 := box (((below_new w _).trans (hb1.mono (below_new w _).size)).alloc ((below_new w _).trans (hb1.mono (below_new w _).size)).size (.cells #[.string a, .string b, .slice p L.length cap] 33))
        have O1 := box (own_below hO1 (below_new w1 (.cells #[.string a, .string b, .slice p L.length cap] 33)))
        clear hO1 hb1
        obtain ⟨⟨r0, r1, r2⟩, ⟨f0, f1, f2⟩⟩ := C1.out
        go_wp2
        (try simp only [Exit.inBlock, Exit.then])
        refine bodyPost_ret (v := .tuple #[.agg #[.string ⟨#[]⟩, .string ⟨#[]⟩, .slice none 0 0], .bool false]) (by rw [results_cell_tmp rfl]; go_simp) rfl ?_
        exact medW_none HR (below3 B1.out (Nat.le_refl _) _ _ _)
    · have HR : Box (mediaL s.data.toList = none) := box (by rw [HC, if_pos rfl, if_pos (.inl ((star_eq h1).mpr rfl))])
      clear HC
      go_enter Tryz.func14, Tryz.ntmps14
      go_wp2_with fail
      refine (rRange_is hs H).mono ?_; rintro e w1 ⟨p, cap, rfl, hO1, hb1⟩
      have C1 := box (((C3.new (.string ⟨#[]⟩) (.string ⟨#[]⟩) (.slice none 0 0) w 33).next hb1).next (below_new w1 (.cells #[.string a, .string b, .slice p L.length cap] 33)))
      have B1 := box (((below_new w _).trans (hb1.mono (below_new w _).size)).alloc ((below_new w _).trans (hb1.mono (below_new w _).size)).size (.cells #[.string a, .string b, .slice p L.length cap] 33))
      have O1 := box (own_below hO1 (below_new w1 (.cells #[.string a, .string b, .slice p L.length cap] 33)))
      clear hO1 hb1
      obtain ⟨⟨r0, r1, r2⟩, ⟨f0, f1, f2⟩⟩ := C1.out
      go_wp2
      (try simp only [Exit.inBlock, Exit.then])
      refine bodyPost_ret (v := .tuple #[.agg #[.string ⟨#[]⟩, .string ⟨#[]⟩, .slice none 0 0], .bool false]) (by rw [results_cell_tmp rfl]; go_simp) rfl ?_
      exact medW_none HR (below3 B1.out (Nat.le_refl _) _ _ _)
def fmtMB (m : M) : ByteArray := fmtPB (m.1 ++ (⟨#[47]⟩ : ByteArray) ++ m.2.1) m.2.2
end
end Go.Proofs.YtnpllgjkbpnimaaGreatDoor.Asc
