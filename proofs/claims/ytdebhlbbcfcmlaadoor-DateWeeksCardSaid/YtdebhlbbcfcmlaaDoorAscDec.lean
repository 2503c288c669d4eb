/- The contracts of Decimal, the program's and the reference's. -/
import Derived.Test.YtdebhlbbcfcmlaaDoorAscOwn
set_option linter.unusedVariables false
set_option linter.unusedSimpArgs false
set_option maxRecDepth 100000
namespace Go.Proofs.YtdebhlbbcfcmlaaDoor.Asc
open Go.RowKit

def InI64 (n : Int) : Prop := -9223372036854775808 ≤ n ∧ n ≤ 9223372036854775807
theorem wrapu_pos {n : Int} (h : InI64 n) (h0 : 0 ≤ n) : IntKind.u64.wrap n = (n.natAbs : Int) := by
  unfold InI64 at h; rw [IntKind.wrap_u64]; omega
theorem wrapu_neg {n : Int} (h : InI64 n) (h0 : n < 0) : IntKind.u64.wrap (-IntKind.u64.wrap n) = (n.natAbs : Int) := by
  unfold InI64 at h; rw [IntKind.wrap_u64, IntKind.wrap_u64]; omega
theorem wrapu_div {N q : Nat} {acc : List UInt8} (h : DecAt N q acc) : IntKind.u64.wrap ((q : Int) / 10) = (q : Int) / 10 := by
  have h2 := h.2.1
  have h3 : q ≤ q * 10 ^ acc.length := Nat.le_mul_of_pos_right _ (Nat.pow_pos (by omega))
  rw [IntKind.wrap_u64]; omega

theorem slice_buf (g p : Nat) (x : Int) (w : World) (hx : x = (p : Int)) (h2 : p < 20) :
    (Instr.sliceAt 44 (.pointer (some ⟨g, 0, none⟩)) (some (.int .i64 x)) none none).run Tryd.prog w = .ok (.slice (some ⟨g, p, none⟩) (20 - p) (20 - p)) w := by
  have e : Tryd.prog.arrayLen 44 = 20 := by kernel_rfl
  have e2 : Tryd.prog.elem 44 = 5 := by kernel_rfl
  have hs : (sizeOf 5).run Tryd.prog w = .ok 1 w := by kernel_rfl
  have h := run_sliceAt_array_l (P := Tryd.prog) w 44 ⟨g, 0, none⟩ (by kernel_rfl) .i64 x (by omega) (by rw [e]; omega)
  rw [h, e, e2, hs]
  have e3 : x.toNat = p := by omega
  simp only [Result.andThen, slicedAt, e3]
  rw [if_neg (by omega)]
  have e4 : (⟨g, 0, none⟩ : Addr).add (p * 1) = ⟨g, p, none⟩ := by unfold Addr.add; split <;> simp_all
  rw [e4]
theorem buf_start (w : World) : Bys (w.alloc (.cells (Array.replicate 20 (.int .u8 0)) 44)) w.heap.size (zbuf 20 []) := by
  refine ⟨by simp, fun j hj => ?_⟩
  simp only [zbuf, List.append_nil, List.length_replicate] at hj ⊢
  refine ⟨?_, by go_simp⟩
  rw [World.cell?_alloc_at (hn := rfl), Array.getElem?_replicate, if_pos hj]
  rw [getD_get _ _ (by simpa using hj), List.getElem_replicate]; rfl
/-- 'string(buffer[p:])' -/
theorem str_buf (g p : Nat) (acc : List UInt8) (w : World) (h : Bys w g (zbuf p acc)) (hp : acc.length + p = 20) :
    (convert 45 9 (.slice (some ⟨g, p, none⟩) (20 - p) (20 - p))).run Tryd.prog w = .ok (.string ⟨acc.toArray⟩) w := by
  have e : 20 - p = acc.length := by omega
  rw [e]
  refine run_convert_bytes_back w 45 9 5 ⟨g, p, none⟩ acc.length acc Tryd.underlying45 Tryd.underlying5 Tryd.underlying9 fun j hj => ?_
  have hc := h.cell (j := p + j) (by simp [zbuf]; omega)
  have ea : (⟨g, p, none⟩ : Addr).add j = ⟨g, p + j, none⟩ := by unfold Addr.add; split <;> simp_all
  rw [ea, hc]
  have : (zbuf p acc).getD (p + j) 0 = acc[j] := by
    simp only [zbuf, List.getD_eq_getElem?_getD]
    rw [List.getElem?_append_right (by simp)]; simp [hj]
  rw [this]; rfl

theorem Decimal_pos (n : Int) (w : World) (h0 : 0 ≤ n) (h1 : InI64 n) :
    Calls Tryd.prog 21 #[.int .i64 n] w fun e w' => e = .returned (.string ⟨(decL n).toArray⟩) ∧ Below w.heap.size w w' := by
  have H1 := Lib.hid h1
  clear h1
  go_enter Tryd.func21, Tryd.ntmps21
  go_wp2
  go_loopw [3, 5] (fun m i wr => ∃ (q p : Nat) (acc : List UInt8), m = .int .u64 q ∧ i = .int .i64 p ∧ acc.length + p = 20 ∧ Bys wr w.heap.size (zbuf p acc) ∧ DecAt n.natAbs q acc ∧ Below w.heap.size w wr) (fun _ i _ => (intOf i).toNat)
  case atStart =>
    refine ⟨_, 20, [], by rw [wrapu_pos H1.out h0], rfl, rfl, ?_, DecAt.start (by have := H1.out; unfold InI64 at this; omega), (Below.refl _ _).alloc (Nat.le_refl _) _⟩
    exact buf_start w
  case round =>
    obtain ⟨q, p, acc, rfl, rfl, hp, hB, hD, hbel⟩ := hrel
    have hl := hD.len
    have hp1 : 2 ≤ p := by omega
    have hp2 : p ≤ 20 := by omega
    have HP := Lib.hid hp
    obtain ⟨cv, hc⟩ : ∃ cv, wr.cell? ⟨w.heap.size, p - 1, none⟩ = some cv := ⟨_, hB.cell (by simp [zbuf]; omega)⟩
    have hf : wr.frozen? ⟨w.heap.size, p - 1, none⟩ = false := hB.frozen (by simp [zbuf]; omega)
    have hset := hB.set (k := p - 1) (by simp [zbuf]; omega) (digB q)
    rw [zbuf_set _ (by omega), bv, dig_toNat] at hset
    have HS := Lib.hid hset
    have hbs := Lib.hid (hbel.setCell (p := ⟨w.heap.size, p - 1, none⟩) (Nat.le_refl _) (.int .u8 (48 + (q : Int) % 10)))
    have hw := wrapu_div hD
    have hsl := fun wx => slice_buf w.heap.size (p - 1) ((p : Int) - 1) wx (by omega) (by omega)
    clear hp hset
    by_cases hm : q / 10 = 0
    · have hst := str_buf _ _ _ _ HS.out (by have := HP.out; simp; omega)
      have hm' : ((q : Int) / 10 == 0) = true := by simp; omega
      have HF := Lib.hid (hD.fin hm)
      clear hm
      go_wp2
      go_ret
      exact ⟨by rw [decL, if_neg (by omega), HF.out]; rfl, hbs.out⟩
    · have hm' : ((q : Int) / 10 == 0) = false := by simp; omega
      have HF := Lib.hid (hD.step hm)
      clear hm
      go_wp2
      go_roundw
      case rel => exact ⟨q / 10, p - 1, _, by go_num, by go_num, by have := HP.out; simp; omega, HS.out, HF.out, hbs.out⟩
      case measure => simp [intOf]; omega
theorem Decimal_neg (n : Int) (w : World) (h0 : n < 0) (h1 : InI64 n) :
    Calls Tryd.prog 21 #[.int .i64 n] w fun e w' => e = .returned (.string ⟨(decL n).toArray⟩) ∧ Below w.heap.size w w' := by
  have H1 := Lib.hid h1
  clear h1
  go_enter Tryd.func21, Tryd.ntmps21
  go_wp2
  go_loopw [3, 5] (fun m i wr => ∃ (q p : Nat) (acc : List UInt8), m = .int .u64 q ∧ i = .int .i64 p ∧ acc.length + p = 20 ∧ Bys wr w.heap.size (zbuf p acc) ∧ DecAt n.natAbs q acc ∧ Below w.heap.size w wr) (fun _ i _ => (intOf i).toNat)
  case atStart =>
    refine ⟨_, 20, [], by rw [wrapu_neg H1.out h0], rfl, rfl, ?_, DecAt.start (by have := H1.out; unfold InI64 at this; omega), (Below.refl _ _).alloc (Nat.le_refl _) _⟩
    exact buf_start w
  case round =>
    obtain ⟨q, p, acc, rfl, rfl, hp, hB, hD, hbel⟩ := hrel
    have hl := hD.len
    have hp1 : 2 ≤ p := by omega
    have hp2 : p ≤ 20 := by omega
    have HP := Lib.hid hp
    obtain ⟨cv, hc⟩ : ∃ cv, wr.cell? ⟨w.heap.size, p - 1, none⟩ = some cv := ⟨_, hB.cell (by simp [zbuf]; omega)⟩
    have hf : wr.frozen? ⟨w.heap.size, p - 1, none⟩ = false := hB.frozen (by simp [zbuf]; omega)
    have hset := hB.set (k := p - 1) (by simp [zbuf]; omega) (digB q)
    rw [zbuf_set _ (by omega), bv, dig_toNat] at hset
    have HS := Lib.hid hset
    have hbs := Lib.hid (hbel.setCell (p := ⟨w.heap.size, p - 1, none⟩) (Nat.le_refl _) (.int .u8 (48 + (q : Int) % 10)))
    have hw := wrapu_div hD
    have hsl := fun wx => slice_buf w.heap.size (p - 1) ((p : Int) - 1) wx (by omega) (by omega)
    clear hp hset
    by_cases hm : q / 10 = 0
    · obtain ⟨cv2, hc2⟩ : ∃ cv, (wr.setCell ⟨w.heap.size, p - 1, none⟩ (.int .u8 (48 + (q : Int) % 10))).cell? ⟨w.heap.size, p - 1 - 1, none⟩ = some cv := ⟨_, HS.out.cell (by simp [zbuf]; omega)⟩
      have hf2 : wr.frozen? ⟨w.heap.size, p - 1 - 1, none⟩ = false := hB.frozen (by simp [zbuf]; omega)
      have hset2 := HS.out.set (k := p - 1 - 1) (by simp [zbuf]; omega) 45
      rw [zbuf_set _ (by omega), show bv 45 = .int .u8 45 from rfl] at hset2
      have hst := str_buf _ _ _ _ hset2 (by have := HP.out; simp; omega)
      have hbs2 := Lib.hid (hbs.out.setCell (p := ⟨w.heap.size, p - 1 - 1, none⟩) (Nat.le_refl _) (.int .u8 45))
      have hsl := fun wx => slice_buf w.heap.size (p - 1 - 1) ((p : Int) - 1 - 1) wx (by omega) (by omega)
      clear hset2
      have hm' : ((q : Int) / 10 == 0) = true := by simp; omega
      have HF := Lib.hid (hD.fin hm)
      clear hm
      go_wp2
      go_ret
      exact ⟨by rw [decL, if_pos (by omega), HF.out]; rfl, hbs2.out⟩
    · have hm' : ((q : Int) / 10 == 0) = false := by simp; omega
      have HF := Lib.hid (hD.step hm)
      clear hm
      go_wp2
      go_roundw
      case rel => exact ⟨q / 10, p - 1, _, by go_num, by go_num, by have := HP.out; simp; omega, HS.out, HF.out, hbs.out⟩
      case measure => simp [intOf]; omega

theorem Decimal_any (n : Int) (w : World) (h1 : InI64 n) :
    Calls Tryd.prog 21 #[.int .i64 n] w fun e w' => e = .returned (.string ⟨(decL n).toArray⟩) ∧ Below w.heap.size w w' := by
  by_cases h : 0 ≤ n
  · exact Decimal_pos n w h h1
  · exact Decimal_neg n w (by omega) h1

end Go.Proofs.YtdebhlbbcfcmlaaDoor.Asc
