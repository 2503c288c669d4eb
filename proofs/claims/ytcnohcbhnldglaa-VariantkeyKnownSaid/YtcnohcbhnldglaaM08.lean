/- Merged texts: PrfMem AccRef LstRem LstClo LanRef LanRef2 CodRef. -/
import Derived.Test.YtcnohcbhnldglaaM03
import Derived.Test.YtcnohcbhnldglaaM04
import Derived.Test.YtcnohcbhnldglaaM05
import Derived.Test.YtcnohcbhnldglaaM06
import Derived.Test.YtcnohcbhnldglaaM07
import Derived.Deep.RegionHeld3
import Derived.Laws.EntriesVeiled
import Derived.Lib.SliceRun
set_option linter.unusedVariables false
set_option linter.unusedSimpArgs false
set_option maxRecDepth 100000
namespace Go.Proofs.Ytcnohcbhnldglaa.Asc
section
open Go.RowKit Go.ChangeShapes Go.WideShapes Go.Deep
abbrev QP := ByteArray × Int
/-- preferences at an address -/
def Qs (w : World) (a : Option Addr) (L : List QP) : Prop :=
  ∀ i (h : i < L.length), ∃ g off, a = some ⟨g, off, none⟩ ∧ w.cell? ⟨g, off + i * 2, none⟩ = some (.string L[i].1) ∧ w.cell? ⟨g, off + i * 2 + 1, none⟩ = some (.int .i64 L[i].2)
theorem Qs.below {w w' : World} {a : Option Addr} {L : List QP} (h : Qs w a L) (hb : Below w.heap.size w w') : Qs w' a L := fun i hi => by
  obtain ⟨g, off, e, c0, c1⟩ := h i hi
  exact ⟨g, off, e, (hb.cell (cell_lt c0)).trans c0, (hb.cell (cell_lt c1)).trans c1⟩
section
variable {w w' : World} {B : Nat} {v : Value}
end
end
section
open Go.RowKit
/-- two values lie at the block's start, and may be written -/
def C2 (g : Nat) (c0 c1 : Value) (w : World) : Prop :=
  (w.cell? ⟨g, 0, none⟩ = some c0 ∧ w.cell? ⟨g, 1, none⟩ = some c1) ∧ (w.frozen? ⟨g, 0, none⟩ = false ∧ w.frozen? ⟨g, 1, none⟩ = false)
section
variable {g B : Nat} {c0 c1 : Value} {w w' : World}
theorem C2.new (c0 c1 : Value) (w : World) (t : TypeId) : C2 w.heap.size c0 c1 (w.alloc (.cells #[c0, c1] t)) := by
  refine ⟨⟨?_, ?_⟩, ⟨?_, ?_⟩⟩
  all_goals first
    | (rw [World.cell?_alloc_mark]; rfl)
    | exact World.frozen?_alloc_at _ _ _ _ rfl
theorem C2.below (f : C2 g c0 c1 w) (hb : Below B w w') (hg : g < B) : C2 g c0 c1 w' := by
  obtain ⟨⟨h0, h1⟩, ⟨f0, f1⟩⟩ := f
  exact ⟨⟨(hb.cell hg).trans h0, (hb.cell hg).trans h1⟩, ⟨(hb.frozen hg).trans f0, (hb.frozen hg).trans f1⟩⟩
theorem C2.lt (f : C2 g c0 c1 w) : g < w.heap.size := cell_lt (p := ⟨g, 0, none⟩) f.1.1
theorem C2.next (f : C2 g c0 c1 w) (hb : Below w.heap.size w w') : C2 g c0 c1 w' := f.below hb f.lt
end
theorem name_no {k : Int} (h1 : ¬ k = 1) (h2 : ¬ k = 2) (h3 : ¬ k = 3) (h4 : ¬ k = 4) : nameK k = ⟨#[]⟩ := by unfold nameK; rw [if_neg h1, if_neg h2, if_neg h3, if_neg h4]
theorem kind_at {n : ByteArray} {j : Nat} (h1 : 1 ≤ j) (h5 : j ≤ 4) (hn : ∀ i : Nat, 1 ≤ i → i < j → foldL n.data.toList (nameK i).data.toList = false) (h : foldL n.data.toList (nameK j).data.toList = true) : kindN n = (j : Int) := by
  have k1 := hn 1; have k2 := hn 2; have k3 := hn 3
  unfold kindN
  obtain rfl | rfl | rfl | rfl : j = 1 ∨ j = 2 ∨ j = 3 ∨ j = 4 := by omega
  · have h' : foldL n.data.toList nmAcc.data.toList = true := h
    rw [if_pos h']; rfl
  · have k1' : foldL n.data.toList nmAcc.data.toList = false := k1 (by omega) (by omega)
    have h' : foldL n.data.toList nmLan.data.toList = true := h
    rw [if_neg (by rw [k1']; simp), if_pos h']; rfl
  · have k1' : foldL n.data.toList nmAcc.data.toList = false := k1 (by omega) (by omega)
    have k2' : foldL n.data.toList nmLan.data.toList = false := k2 (by omega) (by omega)
    have h' : foldL n.data.toList nmCha.data.toList = true := h
    rw [if_neg (by rw [k1']; simp), if_neg (by rw [k2']; simp), if_pos h']; rfl
  · have k1' : foldL n.data.toList nmAcc.data.toList = false := k1 (by omega) (by omega)
    have k2' : foldL n.data.toList nmLan.data.toList = false := k2 (by omega) (by omega)
    have k3' : foldL n.data.toList nmCha.data.toList = false := k3 (by omega) (by omega)
    have h' : foldL n.data.toList nmCod.data.toList = true := h
    rw [if_neg (by rw [k1']; simp), if_neg (by rw [k2']; simp), if_neg (by rw [k3']; simp), if_pos h']; rfl
theorem kind_no {n : ByteArray} (hn : ∀ i : Nat, 1 ≤ i → i < 5 → foldL n.data.toList (nameK i).data.toList = false) : kindN n = 0 := by
  have k1 : foldL n.data.toList nmAcc.data.toList = false := hn 1 (by omega) (by omega)
  have k2 : foldL n.data.toList nmLan.data.toList = false := hn 2 (by omega) (by omega)
  have k3 : foldL n.data.toList nmCha.data.toList = false := hn 3 (by omega) (by omega)
  have k4 : foldL n.data.toList nmCod.data.toList = false := hn 4 (by omega) (by omega)
  unfold kindN
  rw [if_neg (by rw [k1]; simp), if_neg (by rw [k2]; simp), if_neg (by rw [k3]; simp), if_neg (by rw [k4]; simp)]
theorem name_size (k : Int) : (nameK k).size ≤ 15 := by
  unfold nameK
  split
  · decide
  · split
    · decide
    · split
      · decide
      · split
        · decide
        · decide
end
section
open Go.RowKit
/-- what the function value of Remove has captured: a variable that holds the function value of named -/
def Cap (g2 g1 : Nat) (nm : ByteArray) (w : World) : Prop := w.cell? ⟨g2, 0, none⟩ = some (nmV g1) ∧ Nm g1 nm w
theorem Cap.below {w w' : World} {g2 g1 : Nat} {nm : ByteArray} (h : Cap g2 g1 nm w) (hb : Below w.heap.size w w') : Cap g2 g1 nm w' := ⟨(hb.cell (cell_lt h.1)).trans h.1, h.2.below hb⟩
end
section
open Go.RowKit
theorem OwnF.empty (w : World) : OwnF (w.alloc (.cells #[] 37)) w.heap.size (.slice (some ⟨w.heap.size, 0, none⟩) 0 0) [] :=
  ⟨rfl, .inr ⟨_, _, _, rfl, Nat.le_refl _, heap_alloc_new w _, Nat.zero_le _, by unfold maxLen; omega, rfl, rfl⟩⟩
end
section
open Go.RowKit
theorem OwnS.drewN {w : World} {B n : Nat} {v : Value} {L : List ByteArray} (h : OwnS w B v L) : OwnS (w.drewN n) B v L := own_below h (below_drewN _ _)
def strLen : Value → Nat
  | .string s => s.size
  | _ => 0
end
section
open Go.RowKit
def chOk (first : Bool) (c : UInt8) : Bool := lettI c.toNat || (!first && digitI c.toNat)
theorem sub_chars {f : Bool} {x : List UInt8} (h1 : 1 ≤ x.length) (h8 : x.length ≤ 8) : subOk f x = x.all (chOk f) := by
  unfold subOk
  rw [decide_eq_true ⟨h1, h8⟩, Bool.true_and]; rfl
theorem sub_size {f : Bool} {x : List UInt8} (h : x.length < 1 ∨ 8 < x.length) : subOk f x = false := by
  unfold subOk
  rw [decide_eq_false (by omega), Bool.false_and]
theorem allC_more {f : UInt8 → Bool} {x : ByteArray} {m : Nat} (h : (x.data.toList.take m).all f = true) (hm : m < x.size) (hc : f x[m] = true) : (x.data.toList.take (m + 1)).all f = true := by
  rw [take_snoc x m hm, List.all_append, h]; simp [hc]
theorem allC_not {f : UInt8 → Bool} {x : ByteArray} {m : Nat} (hm : m < x.size) (hc : f x[m] = false) : x.data.toList.all f = false := by
  rw [List.all_eq_false]
  have hm2 : m < x.data.toList.length := by simpa using hm
  exact ⟨x.data.toList[m], List.getElem_mem hm2, by show ¬ f x[m] = true; rw [hc]; simp⟩
def TagI (x : ByteArray) (f : Bool) (m : Value) : Prop := ∃ k : Nat, m = .int .i64 k ∧ k ≤ x.size ∧ (x.data.toList.take k).all (chOk f) = true
end
section
open Go.RowKit
theorem bs_list (l : List UInt8) : (bs l).toList = l := by rw [toList_data]; rfl
theorem beq_list {a b : List UInt8} {q : Bool} (h : decide (a = b) = q) : (a == b) = q := by
  rw [← h]
  by_cases e : a = b
  · rw [decide_eq_true e, e]; simp
  · rw [decide_eq_false e, beq_eq_false_iff_ne]; exact e
end
end Go.Proofs.Ytcnohcbhnldglaa.Asc
