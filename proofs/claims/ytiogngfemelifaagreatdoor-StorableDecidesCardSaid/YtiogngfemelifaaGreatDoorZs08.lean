/- Merged texts: AscNum AscDec AscRDec PrfMem AccRef LstRem LstClo. -/
import Derived.Test.YtiogngfemelifaaGreatDoorZs01
import Derived.Test.YtiogngfemelifaaGreatDoorZs02
import Derived.Test.YtiogngfemelifaaGreatDoorZs03
import Derived.Test.YtiogngfemelifaaGreatDoorZs04
import Derived.Test.YtiogngfemelifaaGreatDoorZs05
import Derived.Test.YtiogngfemelifaaGreatDoorZs06
import Derived.Test.YtiogngfemelifaaGreatDoorZs07
import Derived.Deep.RegionHeld3
import Derived.Laws.AppendOwnNone
import Derived.Laws.EntriesVeiled
import Derived.Lib.Hide
import Derived.Lib.SliceRun
import Derived.LoopTactic
import Derived.OwnWalk
set_option linter.unusedVariables false
set_option linter.unusedSimpArgs false
set_option maxRecDepth 100000
namespace Go.Proofs.YtiogngfemelifaaGreatDoor.Asc
section
open Go.RowKit
def numT (o : Option Int) : Value := .tuple #[.int .i64 (numV o).1, .bool (numV o).2]
theorem numT_of {o : Option Int} {a : Int} {b : Bool} (h : numV o = (a, b)) : Ending.returned (.tuple #[.int .i64 a, .bool b]) = .returned (numT o) := by
  unfold numT; rw [h]
theorem appendDigit_any (v d : Int) (w : World) (h0 : 0 ≤ v) (h1 : v ≤ 2147483647) (h2 : 0 ≤ d) (h3 : d ≤ 9) :
    Calls Tryz.prog 116 #[.int .i64 v, .int .i64 d] w fun e w' => e = .returned (.int .i64 (satI v d)) ∧ w = w' := by
  go_enter Tryz.func116, Tryz.ntmps116
  go_wp2
  all_goals (go_ret; exact ⟨ret_int (by unfold satI; split <;> omega), rfl⟩)
theorem Number_any (s : ByteArray) (w : World) (hs : s.size ≤ maxLen) :
    Calls Tryz.prog 82 #[.string s] w fun e w' => e = .returned (numT (numL s.data.toList)) ∧ w = w' := by
  unfold maxLen at hs
  go_enter Tryz.func82, Tryz.ntmps82
  go_wp2
  go_loop [4, 5, 8] (fun v _ i => ∃ k : Nat, k ≤ s.size ∧ i = .int .i64 k ∧ v = .int .i64 (numF (s.data.toList.take k)) ∧ 0 ≤ numF (s.data.toList.take k) ∧ numF (s.data.toList.take k) ≤ 2147483647 ∧ allI digitI (s.data.toList.take k) = true) (fun _ _ i => s.size - (intOf i).toNat)
  case atStart => exact ⟨0, Nat.zero_le _, rfl, rfl, by simp [numF], by simp [numF], rfl⟩
  case round =>
    obtain ⟨k, hk, rfl, rfl, hn0, hn1, hall⟩ := hrel
    by_cases hlt : k < s.size
    · have hb := byte_bd s k hlt
      rcases hp : digitI (s[k].toNat) with _ | _
      · go_wp2_with (go_at_call 95; refine (isDigit_any _ _ hb.1 hb.2).mono ?_; rintro e w' ⟨rfl, rfl⟩)
        go_ret2
        exact ⟨numT_of (by rw [num_not hlt hp]; rfl), rfl⟩
      · have hd := digitI_bd hp
        have HM := Lib.hid (numF_more hlt)
        have HB := satI_bd (v := numF (s.data.toList.take k)) (d := (s[k].toNat : Int) - 48) hn0 (by omega)
        rw [← HM.out] at HB
        have HBB := Lib.hid HB
        have HA := Lib.hid (all_more hall hlt hp)
        have HH := Lib.hid hall
        clear HB hall
        go_wp2_with (first | (go_at_call 95; refine (isDigit_any _ _ hb.1 hb.2).mono ?_; rintro e w' ⟨rfl, rfl⟩) | (go_at_call 116; refine (appendDigit_any _ _ _ hn0 hn1 (by omega) (by omega)).mono ?_; rintro e w' ⟨rfl, rfl⟩))
        go_round
        case rel => exact ⟨k + 1, by omega, by go_num, by rw [HM.out], HBB.out.1, HBB.out.2, HA.out⟩
        case measure => simp [intOf]; omega
    · go_wp2
      go_ret2
      exact ⟨numT_of (num_end hall (by omega)), rfl⟩
theorem rNumber_any (s : ByteArray) (w : World) (hs : s.size ≤ maxLen) :
    Calls Tryz.prog 75 #[.string s] w fun e w' => e = .returned (numT (numL s.data.toList)) ∧ w = w' := by
  unfold maxLen at hs
  go_enter Tryz.func75, Tryz.ntmps75
  go_wp2
  go_loop [4, 5] (fun v i => ∃ k : Nat, k ≤ s.size ∧ i = .int .i64 k ∧ v = .int .i64 (numF (s.data.toList.take k)) ∧ 0 ≤ numF (s.data.toList.take k) ∧ numF (s.data.toList.take k) ≤ 2147483647 ∧ allI digitI (s.data.toList.take k) = true) (fun _ i => s.size - (intOf i).toNat)
  case atStart => exact ⟨0, Nat.zero_le _, rfl, rfl, by simp [numF], by simp [numF], rfl⟩
  case round =>
    obtain ⟨k, hk, rfl, rfl, hn0, hn1, hall⟩ := hrel
    by_cases hlt : k < s.size
    · have hb := byte_bd s k hlt
      rcases hp : digitI (s[k].toNat) with _ | _
      · go_wp2_with (go_at_call 110; refine (rDigit_any _ _ hb.1 hb.2).mono ?_; rintro e w' ⟨rfl, rfl⟩)
        go_ret2
        exact ⟨numT_of (by rw [num_not hlt hp]; rfl), rfl⟩
      · have hd := digitI_bd hp
        have HM := Lib.hid (numF_more hlt)
        have HB := satI_bd (v := numF (s.data.toList.take k)) (d := (s[k].toNat : Int) - 48) hn0 (by omega)
        rw [← HM.out] at HB
        have HBB := Lib.hid HB
        have HA := Lib.hid (all_more hall hlt hp)
        have HH := Lib.hid hall
        clear HB hall
        by_cases hbig : numF (s.data.toList.take k) * 10 + ((s[k].toNat : Int) - 48) > 2147483647
        · go_wp2_with (go_at_call 110; refine (rDigit_any _ _ hb.1 hb.2).mono ?_; rintro e w' ⟨rfl, rfl⟩)
          go_round
          case rel => exact ⟨k + 1, by omega, by go_num, by rw [HM.out, satI, if_pos (by omega)], HBB.out.1, HBB.out.2, HA.out⟩
          case measure => simp [intOf]; omega
        · go_wp2_with (go_at_call 110; refine (rDigit_any _ _ hb.1 hb.2).mono ?_; rintro e w' ⟨rfl, rfl⟩)
          go_round
          case rel => exact ⟨k + 1, by omega, by go_num, by rw [HM.out, satI, if_neg (by omega)], HBB.out.1, HBB.out.2, HA.out⟩
          case measure => simp [intOf]; omega
    · go_wp2
      go_ret2
      exact ⟨numT_of (num_end hall (by omega)), rfl⟩
end
section
open Go.RowKit
def InI64 (n : Int) : Prop := -9223372036854775808 ≤ n ∧ n ≤ 9223372036854775807
theorem wrapu_pos {n : Int} (h : InI64 n) (h0 : 0 ≤ n) : IntKind.u64.wrap n = (n.natAbs : Int) := by
  unfold InI64 at h; rw [IntKind.wrap_u64]; omega
theorem wrapu_neg {n : Int} (h : InI64 n) (h0 : n < 0) : IntKind.u64.wrap (-IntKind.u64.wrap n) = (n.natAbs : Int) := by
  unfold InI64 at h; rw [IntKind.wrap_u64, IntKind.wrap_u64]; omega
theorem wrapu_div {N q : Nat} {acc : List UInt8} (h : DecAt N q acc) : IntKind.u64.wrap ((q : Int) / 10) = (q : Int) / 10 := by
  have h2 := h.2.1
  have h3 : q ≤ q * 10 ^ acc.length := Nat.le_mul_of_pos_right _ (Nat.pow_pos (by omega))
  rw [IntKind.wrap_u64]; omega
theorem slice_buf (g p : Nat) (x : Int) (w : World) (hx : x = (p : Int)) (h2 : p < 20) :
    (Instr.sliceAt 115 (.pointer (some ⟨g, 0, none⟩)) (some (.int .i64 x)) none none).run Tryz.prog w = .ok (.slice (some ⟨g, p, none⟩) (20 - p) (20 - p)) w := by
  have e : Tryz.prog.arrayLen 115 = 20 := by kernel_rfl
  have e2 : Tryz.prog.elem 115 = 5 := by kernel_rfl
  have hs : (sizeOf 5).run Tryz.prog w = .ok 1 w := by kernel_rfl
  have h := run_sliceAt_array_l (P := Tryz.prog) w 115 ⟨g, 0, none⟩ (by kernel_rfl) .i64 x (by omega) (by rw [e]; omega)
  rw [h, e, e2, hs]
  have e3 : x.toNat = p := by omega
  simp only [Result.andThen, slicedAt, e3]
  rw [if_neg (by omega)]
  have e4 : (⟨g, 0, none⟩ : Addr).add (p * 1) = ⟨g, p, none⟩ := by unfold Addr.add; split <;> simp_all
  rw [e4]
theorem buf_start (w : World) : Bys (w.alloc (.cells (Array.replicate 20 (.int .u8 0)) 115)) w.heap.size (zbuf 20 []) := by
  refine ⟨by simp, fun j hj => ?_⟩
  simp only [zbuf, List.append_nil, List.length_replicate] at hj ⊢
  refine ⟨?_, by go_simp⟩
  rw [World.cell?_alloc_at (hn := rfl), Array.getElem?_replicate, if_pos hj]
  rw [getD_get _ _ (by simpa using hj), List.getElem_replicate]; rfl
/-- 'string(buffer[p:])' -/
theorem str_buf (g p : Nat) (acc : List UInt8) (w : World) (h : Bys w g (zbuf p acc)) (hp : acc.length + p = 20) :
    (convert 78 9 (.slice (some ⟨g, p, none⟩) (20 - p) (20 - p))).run Tryz.prog w = .ok (.string ⟨acc.toArray⟩) w := by
  have e : 20 - p = acc.length := by omega
  rw [e]
  refine run_convert_bytes_back w 78 9 5 ⟨g, p, none⟩ acc.length acc Tryz.underlying78 Tryz.underlying5 Tryz.underlying9 fun j hj => ?_
  have hc := h.cell (j := p + j) (by simp [zbuf]; omega)
  have ea : (⟨g, p, none⟩ : Addr).add j = ⟨g, p + j, none⟩ := by unfold Addr.add; split <;> simp_all
  rw [ea, hc]
  have : (zbuf p acc).getD (p + j) 0 = acc[j] := by
    simp only [zbuf, List.getD_eq_getElem?_getD]
    rw [List.getElem?_append_right (by simp)]; simp [hj]
  rw [this]; rfl
theorem Decimal_pos (n : Int) (w : World) (h0 : 0 ≤ n) (h1 : InI64 n) :
    Calls Tryz.prog 85 #[.int .i64 n] w fun e w' => e = .returned (.string ⟨(decL n).toArray⟩) ∧ Below w.heap.size w w' := by
  have H1 := Lib.hid h1
  clear h1
  go_enter Tryz.func85, Tryz.ntmps85
  go_wp2
  go_loopw [3, 5] (fun m i wr => ∃ (q p : Nat) (acc : List UInt8), m = .int .u64 q ∧ i = .int .i64 p ∧ acc.length + p = 20 ∧ Bys wr w.heap.size (zbuf p acc) ∧ DecAt n.natAbs q acc ∧ Below w.heap.size w wr) (fun _ i _ => (intOf i).toNat)
  case atStart =>
    refine ⟨_, 20, [], by rw [wrapu_pos H1.out h0], rfl, rfl, ?_, DecAt.start (by have := H1.out; unfold InI64 at this; omega), (Below.refl _ _).alloc (Nat.le_refl _) _⟩
    exact buf_start w
  case round =>
    obtain ⟨q, p, acc, rfl, rfl, hp, hB, hD, hbel⟩ := hrel
    have hl := hD.len
    have hp1 : 2 ≤ p := by omega
    have hp2 : p ≤ 20 := by omega
    have HP := Lib.hid hp
    obtain ⟨cv, hc⟩ : ∃ cv, wr.cell? ⟨w.heap.size, p - 1, none⟩ = some cv := ⟨_, hB.cell (by simp [zbuf]; omega)⟩
    have hf : wr.frozen? ⟨w.heap.size, p - 1, none⟩ = false := hB.frozen (by simp [zbuf]; omega)
    have hset := hB.set (k := p - 1) (by simp [zbuf]; omega) (digB q)
    rw [zbuf_set _ (by omega), bv, dig_toNat] at hset
    have HS := Lib.hid hset
    have hbs := Lib.hid (hbel.setCell (p := ⟨w.heap.size, p - 1, none⟩) (Nat.le_refl _) (.int .u8 (48 + (q : Int) % 10)))
    have hw := wrapu_div hD
    have hsl := fun wx => slice_buf w.heap.size (p - 1) ((p : Int) - 1) wx (by omega) (by omega)
    clear hp hset
    by_cases hm : q / 10 = 0
    · have hst := str_buf _ _ _ _ HS.out (by have := HP.out; simp; omega)
      have hm' : ((q : Int) / 10 == 0) = true := by simp; omega
      have HF := Lib.hid (hD.fin hm)
      clear hm
      go_wp2
      go_ret
      exact ⟨by rw [decL, if_neg (by omega), HF.out]; rfl, hbs.out⟩
    · have hm' : ((q : Int) / 10 == 0) = false := by simp; omega
      have HF := Lib.hid (hD.step hm)
      clear hm
      go_wp2
      go_roundw
      case rel => exact ⟨q / 10, p - 1, _, by go_num, by go_num, by have := HP.out; simp; omega, HS.out, HF.out, hbs.out⟩
      case measure => simp [intOf]; omega
theorem Decimal_neg (n : Int) (w : World) (h0 : n < 0) (h1 : InI64 n) :
    Calls Tryz.prog 85 #[.int .i64 n] w fun e w' => e = .returned (.string ⟨(decL n).toArray⟩) ∧ Below w.heap.size w w' := by
  have H1 := Lib.hid h1
  clear h1
  go_enter Tryz.func85, Tryz.ntmps85
  go_wp2
  go_loopw [3, 5] (fun m i wr => ∃ (q p : Nat) (acc : List UInt8), m = .int .u64 q ∧ i = .int .i64 p ∧ acc.length + p = 20 ∧ Bys wr w.heap.size (zbuf p acc) ∧ DecAt n.natAbs q acc ∧ Below w.heap.size w wr) (fun _ i _ => (intOf i).toNat)
  case atStart =>
    refine ⟨_, 20, [], by rw [wrapu_neg H1.out h0], rfl, rfl, ?_, DecAt.start (by have := H1.out; unfold InI64 at this; omega), (Below.refl _ _).alloc (Nat.le_refl _) _⟩
    exact buf_start w
  case round =>
    obtain ⟨q, p, acc, rfl, rfl, hp, hB, hD, hbel⟩ := hrel
    have hl := hD.len
    have hp1 : 2 ≤ p := by omega
    have hp2 : p ≤ 20 := by omega
    have HP := Lib.hid hp
    obtain ⟨cv, hc⟩ : ∃ cv, wr.cell? ⟨w.heap.size, p - 1, none⟩ = some cv := ⟨_, hB.cell (by simp [zbuf]; omega)⟩
    have hf : wr.frozen? ⟨w.heap.size, p - 1, none⟩ = false := hB.frozen (by simp [zbuf]; omega)
    have hset := hB.set (k := p - 1) (by simp [zbuf]; omega) (digB q)
    rw [zbuf_set _ (by omega), bv, dig_toNat] at hset
    have HS := Lib.hid hset
    have hbs := Lib.hid (hbel.setCell (p := ⟨w.heap.size, p - 1, none⟩) (Nat.le_refl _) (.int .u8 (48 + (q : Int) % 10)))
    have hw := wrapu_div hD
    have hsl := fun wx => slice_buf w.heap.size (p - 1) ((p : Int) - 1) wx (by omega) (by omega)
    clear hp hset
    by_cases hm : q / 10 = 0
    · obtain ⟨cv2, hc2⟩ : ∃ cv, (wr.setCell ⟨w.heap.size, p - 1, none⟩ (.int .u8 (48 + (q : Int) % 10))).cell? ⟨w.heap.size, p - 1 - 1, none⟩ = some cv := ⟨_, HS.out.cell (by simp [zbuf]; omega)⟩
      have hf2 : wr.frozen? ⟨w.heap.size, p - 1 - 1, none⟩ = false := hB.frozen (by simp [zbuf]; omega)
      have hset2 := HS.out.set (k := p - 1 - 1) (by simp [zbuf]; omega) 45
      rw [zbuf_set _ (by omega), show bv 45 = .int .u8 45 from rfl] at hset2
      have hst := str_buf _ _ _ _ hset2 (by have := HP.out; simp; omega)
      have hbs2 := Lib.hid (hbs.out.setCell (p := ⟨w.heap.size, p - 1 - 1, none⟩) (Nat.le_refl _) (.int .u8 45))
      have hsl := fun wx => slice_buf w.heap.size (p - 1 - 1) ((p : Int) - 1 - 1) wx (by omega) (by omega)
      clear hset2
      have hm' : ((q : Int) / 10 == 0) = true := by simp; omega
      have HF := Lib.hid (hD.fin hm)
      clear hm
      go_wp2
      go_ret
      exact ⟨by rw [decL, if_pos (by omega), HF.out]; rfl, hbs2.out⟩
    · have hm' : ((q : Int) / 10 == 0) = false := by simp; omega
      have HF := Lib.hid (hD.step hm)
      clear hm
      go_wp2
      go_roundw
      case rel => exact ⟨q / 10, p - 1, _, by go_num, by go_num, by have := HP.out; simp; omega, HS.out, HF.out, hbs.out⟩
      case measure => simp [intOf]; omega
theorem Decimal_any (n : Int) (w : World) (h1 : InI64 n) :
    Calls Tryz.prog 85 #[.int .i64 n] w fun e w' => e = .returned (.string ⟨(decL n).toArray⟩) ∧ Below w.heap.size w w' := by
  by_cases h : 0 ≤ n
  · exact Decimal_pos n w h h1
  · exact Decimal_neg n w (by omega) h1
end
section
open Go.RowKit
/-- how far the digits have come -/
def RDec (N m : Nat) (acc : List UInt8) : Prop := DecAt N m acc ∨ (m = 0 ∧ 1 ≤ acc.length ∧ acc.length ≤ 19 ∧ decF 20 N [] = acc)
theorem RDec.next {N m : Nat} {acc : List UInt8} (h : DecAt N m acc) : RDec N (m / 10) (digB m :: acc) := by
  by_cases hm : m / 10 = 0
  · have := h.len
    exact .inr ⟨hm, by simp, by simp; omega, h.fin hm⟩
  · exact .inl (h.step hm)
theorem RDec.step {N m : Nat} {acc : List UInt8} (h : DecAt N m acc) : Hid (RDec N (m / 10) (digB m :: acc)) := Lib.hid (RDec.next h)
end
section
open Go.RowKit Go.ChangeShapes Go.WideShapes Go.Deep
abbrev QP := ByteArray × Int
/-- preferences at an address -/
def Qs (w : World) (a : Option Addr) (L : List QP) : Prop :=
  ∀ i (h : i < L.length), ∃ g off, a = some ⟨g, off, none⟩ ∧ w.cell? ⟨g, off + i * 2, none⟩ = some (.string L[i].1) ∧ w.cell? ⟨g, off + i * 2 + 1, none⟩ = some (.int .i64 L[i].2)
theorem Qs.below {w w' : World} {a : Option Addr} {L : List QP} (h : Qs w a L) (hb : Below w.heap.size w w') : Qs w' a L := fun i hi => by
  obtain ⟨g, off, e, c0, c1⟩ := h i hi
  exact ⟨g, off, e, (hb.cell (cell_lt c0)).trans c0, (hb.cell (cell_lt c1)).trans c1⟩
section
variable {w w' : World} {B : Nat} {v : Value}
end
end
section
open Go.RowKit
/-- two values lie at the block's start, and may be written -/
def C2 (g : Nat) (c0 c1 : Value) (w : World) : Prop :=
  (w.cell? ⟨g, 0, none⟩ = some c0 ∧ w.cell? ⟨g, 1, none⟩ = some c1) ∧ (w.frozen? ⟨g, 0, none⟩ = false ∧ w.frozen? ⟨g, 1, none⟩ = false)
section
variable {g B : Nat} {c0 c1 : Value} {w w' : World}
theorem C2.new (c0 c1 : Value) (w : World) (t : TypeId) : C2 w.heap.size c0 c1 (w.alloc (.cells #[c0, c1] t)) := by
  refine ⟨⟨?_, ?_⟩, ⟨?_, ?_⟩⟩
  all_goals first
    | (rw [World.cell?_alloc_mark]; rfl)
    | exact World.frozen?_alloc_at _ _ _ _ rfl
theorem C2.below (f : C2 g c0 c1 w) (hb : Below B w w') (hg : g < B) : C2 g c0 c1 w' := by
  obtain ⟨⟨h0, h1⟩, ⟨f0, f1⟩⟩ := f
  exact ⟨⟨(hb.cell hg).trans h0, (hb.cell hg).trans h1⟩, ⟨(hb.frozen hg).trans f0, (hb.frozen hg).trans f1⟩⟩
theorem C2.lt (f : C2 g c0 c1 w) : g < w.heap.size := cell_lt (p := ⟨g, 0, none⟩) f.1.1
theorem C2.next (f : C2 g c0 c1 w) (hb : Below w.heap.size w w') : C2 g c0 c1 w' := f.below hb f.lt
end
end
section
open Go.RowKit
/-- what the function value of Remove has captured: a variable that holds the function value of named -/
def Cap (g2 g1 : Nat) (nm : ByteArray) (w : World) : Prop := w.cell? ⟨g2, 0, none⟩ = some (nmV g1) ∧ Nm g1 nm w
theorem Cap.below {w w' : World} {g2 g1 : Nat} {nm : ByteArray} (h : Cap g2 g1 nm w) (hb : Below w.heap.size w w') : Cap g2 g1 nm w' := ⟨(hb.cell (cell_lt h.1)).trans h.1, h.2.below hb⟩
end
section
open Go.RowKit
theorem OwnF.empty (w : World) : OwnF (w.alloc (.cells #[] 43)) w.heap.size (.slice (some ⟨w.heap.size, 0, none⟩) 0 0) [] :=
  ⟨rfl, .inr ⟨_, _, _, rfl, Nat.le_refl _, heap_alloc_new w _, Nat.zero_le _, by unfold maxLen; omega, rfl, rfl⟩⟩
end
end Go.Proofs.YtiogngfemelifaaGreatDoor.Asc
