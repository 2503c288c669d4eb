/- The contract of strings.makeASCIISet at a slash and a question mark, and of the set's contains. -/
import Derived.Test.YthfhoacflkbhhaaTarDec
import Derived.Test.YthfhoacflkbhhaaStaCut
import Derived.Lib.AsciiSet
import Derived.Deep.WholeRow
import Derived.Laws.Tables
import Derived.Deep.LoopGhost
import Derived.WalkMore
import Derived.Laws.Strings3
import Derived.Laws.ResultCell
set_option linter.unusedVariables false
set_option linter.unusedSimpArgs false
namespace Go.Proofs.Ythfhoacflkbhhaa.Asc
open Go.RowKit

def endsS : ByteArray := ⟨#[47, 63]⟩
theorem set_info : (Try.prog.info? 63).map (fun i => (i.zero, i.size)) = some (some (.agg (Array.replicate 256 (.bool false))), 256) := by kernel_rfl
theorem contains_any (b : Nat) (x : UInt8) (v : Bool) (w : World) (hc : w.cell? ⟨b, x.toNat, none⟩ = some (.bool v)) :
    Calls Try.prog 41 #[.pointer (some ⟨b, 0, none⟩), .int .u8 x.toNat] w fun e w' => e = .returned (.bool v) ∧ w = w' := by
  have hx256 : (x.toNat : Int) < 256 := by have := UInt8.toNat_lt x; omega
  go_enter Try.func41, Try.ntmps41
  go_wp2
  go_ret
  exact ⟨rfl, rfl⟩
set_option maxHeartbeats 4000000 in
set_option maxRecDepth 1000000 in
theorem makeSet_any (w : World) :
    Calls Try.prog 40 #[.string endsS] w fun e w' => e = .returned (.tuple #[.agg (Lib.setCells ends2), .bool true]) ∧ w' = w.alloc (.cells (Lib.setCells ends2) 63) := by
  have hi63 := (zero_of_info set_info).2
  have hv63 := (zero_of_info set_info).1
  have hz : endsS.size = 2 := rfl
  go_enter Try.func40, Try.ntmps40
  go_wp2
  rw [← Lib.setCells_nil]
  go_loopg [4] 2 (fun g s4 wx => ∃ i : Nat, i + g = 2 ∧ s4 = .int .i64 i ∧ wx = w.alloc (.cells (Lib.setCells (ends2.take i)) 63))
  case atStart => exact ⟨0, by omega, rfl, rfl⟩
  case round =>
    obtain ⟨i, hig, rfl, rfl⟩ := hrel
    cases gk with
    | zero =>
      obtain rfl : i = 2 := by omega
      have hiz : ¬ ((2 : Int) < (endsS.size : Int)) := by rw [hz]; omega
      rw [show ends2.take 2 = ends2 from rfl]
      have hsz : (Try.prog.info? 63).map (·.size) = some (Lib.setCells ends2).size := by rw [Lib.setCells_size]; exact hi63
      have HSZ := box hsz
      clear hsz hi63 hv63
      have hsc := run_storeCells_new (P := Try.prog) w 63 (Lib.setCells ends2) (Lib.setCells ends2) HSZ.out rfl (Lib.setCells_one _)
      have HSC := box hsc
      clear hsc
      go_wp2_with (with_reducible refine wpList_load_row rfl 63 (.tmp 2) rfl w.heap.size rfl 63 (Lib.setCells ends2) (0, 0) _ (heap_alloc_last _ _) Try.underlying63 rfl HSZ.out ?_)
      simp only [HSC.out, Result.andThen]
      rw [Oper.upon_skip]
      go_wp2
      (try simp only [Exit.inBlock, Exit.then])
      refine bodyPost_ret (v := .tuple #[.agg (Lib.setCells ends2), .bool true]) ?_ rfl ⟨rfl, rfl⟩
      rw [results_cell_tmp rfl]
      simp [asAddr, Result.andThen, run_loadVar_new (P := Try.prog) w 63 (Lib.setCells ends2) 256 4 Try.underlying63 HSZ.out]
    | succ g =>
      have hi : i < endsS.size := by omega
      have hiz : (i : Int) < (endsS.size : Int) := by omega
      obtain ⟨x, hx⟩ : ∃ x : UInt8, endsS[i]'hi = x := ⟨_, rfl⟩
      have hxl : ends2[i]? = some x := by
        rw [← hx]
        match i, hi with
        | 0, _ => rfl
        | 1, _ => rfl
      have hx128 : ¬ ((128 : Int) ≤ (x.toNat : Int)) := by
        match i, hi, hx with
        | 0, _, h => have e : x = 47 := h.symm; rw [e]; decide
        | 1, _, h => have e : x = 63 := h.symm; rw [e]; decide
      have hx256 : (x.toNat : Int) < 256 := by omega
      have hcell := Lib.setCells_at (ends2.take i) x
      have HX := box hxl
      clear hxl
      go_wp2
      go_roundg g
      case measure => omega
      case rel => exact ⟨i + 1, by omega, by first | rfl | simp, by rw [List.take_add_one, HX.out]; simp only [Option.toList]; rw [Lib.setCells_snoc]⟩

end Go.Proofs.Ythfhoacflkbhhaa.Asc
