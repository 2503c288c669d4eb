/- Merged texts: VarSpec VarMem PrfMem AccRef CodRef LanRef LanRef2. -/
import Derived.Test.YtodbmdekgfcjpaaM03
import Derived.Test.YtodbmdekgfcjpaaM04
import Derived.Test.YtodbmdekgfcjpaaM05
import Derived.Test.YtodbmdekgfcjpaaM06
import Derived.Test.YtodbmdekgfcjpaaM07
import Derived.Carry
import Derived.Deep.RegionHeld3
import Derived.Deep.SlicePairs
import Derived.Deep.Slices
import Derived.ProofKit
set_option linter.unusedVariables false
set_option linter.unusedSimpArgs false
set_option maxRecDepth 100000
namespace Go.Proofs.Ytodbmdekgfcjpaa.Asc
section
abbrev AX := ByteArray × List ByteArray
def noB : ByteArray := ⟨#[]⟩
def qName : ByteArray := ⟨#[113]⟩
def atS (L : List ByteArray) (i : Nat) : ByteArray := L.getD i noB
def atP (L : List F) (i : Nat) : ByteArray := (L.getD i (noB, noB)).1
def atA (L : List AX) (i : Nat) : AX := L.getD i (noB, [])
/-- the first k names of parameters differ from the one at i -/
def newP (L : List F) (i k : Nat) : Bool := (List.range k).all fun j => decide (atP L i ≠ atP L j)
/-- the first n parameters have names of their own, none of them q -/
def ownP (L : List F) (n : Nat) : Bool := (List.range n).all fun i => newP L i i && decide (atP L i ≠ qName)
def valueV (n x : ByteArray) : Bool :=
  if kindN n = 1 then (mediaL x.data.toList).isSome && ownP (ofM (mediaL x.data.toList)).2.2 (ofM (mediaL x.data.toList)).2.2.length
  else if kindN n = 2 then tagL x.data.toList
  else if kindN n = 3 ∨ kindN n = 4 then tokL x.data.toList && decide (x ≠ star)
  else decide (1 ≤ x.size) && decide (x.size ≤ 100) && textL x.data.toList && decide (trimL x.data.toList = x.data.toList)
def sameV (n x y : ByteArray) : Bool :=
  if kindN n = 1 ∨ kindN n = 2 then foldL x.data.toList y.data.toList
  else if kindN n = 3 ∨ kindN n = 4 then decide (canL (kindN n) x.data.toList = canL (kindN n) y.data.toList)
  else decide (x = y)
/-- the value at i is the Same as none of the first k -/
def newV (n : ByteArray) (V : List ByteArray) (i k : Nat) : Bool := (List.range k).all fun j => !sameV n (atS V i) (atS V j)
def valsV (n : ByteArray) (V : List ByteArray) (m : Nat) : Bool := (List.range m).all fun i => valueV n (atS V i) && newV n V i i
def headV (n : ByteArray) (V : List ByteArray) : Bool := tokL n.data.toList && decide (lowL n.data.toList = n.data.toList) && decide (1 ≤ V.length) && decide (V.length ≤ 16)
def validA (x : AX) : Bool := headV x.1 x.2 && valsV x.1 x.2 x.2.length
def newA (L : List AX) (i k : Nat) : Bool := (List.range k).all fun j => decide ((atA L i).1 ≠ (atA L j).1)
def axesV (L : List AX) (m : Nat) : Bool := (List.range m).all fun i => validA (atA L i) && newA L i i
def validX (L : List AX) : Bool := decide (1 ≤ L.length) && decide (L.length ≤ 4) && axesV L L.length
theorem range_more (n : Nat) (f : Nat → Bool) : (List.range (n + 1)).all f = ((List.range n).all f && f n) := by
  rw [List.range_succ, List.all_append]; simp
theorem ownP_more (L : List F) (n : Nat) : ownP L (n + 1) = (ownP L n && (newP L n n && decide (atP L n ≠ qName))) := range_more _ _
theorem valsV_more (n : ByteArray) (V : List ByteArray) (m : Nat) : valsV n V (m + 1) = (valsV n V m && (valueV n (atS V m) && newV n V m m)) := range_more _ _
theorem axesV_more (L : List AX) (m : Nat) : axesV L (m + 1) = (axesV L m && (validA (atA L m) && newA L m m)) := range_more _ _
theorem range_no {n i : Nat} {f : Nat → Bool} (h : i < n) (hf : f i = false) : (List.range n).all f = false := by
  rw [List.all_eq_false]; exact ⟨i, List.mem_range.2 h, by simp [hf]⟩
theorem atS_is {L : List ByteArray} {i : Nat} (h : i < L.length) : atS L i = L[i] := by unfold atS; simp [h]
theorem atP_is {L : List F} {i : Nat} (h : i < L.length) : atP L i = L[i].1 := by unfold atP; simp [h]
theorem atA_is {L : List AX} {i : Nat} (h : i < L.length) : atA L i = L[i] := by unfold atA; simp [h]
end
section
open Go.RowKit Go.ChangeShapes Go.WideShapes Go.Deep
/-- a value that is the list of strings V -/
def SsV (w : World) (v : Value) (V : List ByteArray) : Prop := ∃ b c, v = .slice b V.length c ∧ Ss w b V ∧ V.length ≤ c
theorem SsV.below {w w' : World} {v : Value} {V : List ByteArray} (h : SsV w v V) (hb : Below w.heap.size w w') : SsV w' v V := by
  obtain ⟨b, c, e, hs, hc⟩ := h
  exact ⟨b, c, e, hs.below hb, hc⟩
def Axs (w : World) (a : Option Addr) (L : List AX) : Prop :=
  ∀ i (h : i < L.length), ∃ g off v, a = some ⟨g, off, none⟩ ∧ w.cell? ⟨g, off + i * 2, none⟩ = some (.string L[i].1) ∧ w.cell? ⟨g, off + i * 2 + 1, none⟩ = some v ∧ SsV w v L[i].2
theorem Axs.below {w w' : World} {a : Option Addr} {L : List AX} (h : Axs w a L) (hb : Below w.heap.size w w') : Axs w' a L := fun i hi => by
  obtain ⟨g, off, v, e, c0, c1, hs⟩ := h i hi
  exact ⟨g, off, v, e, (hb.cell (cell_lt c0)).trans c0, (hb.cell (cell_lt c1)).trans c1, hs.below hb⟩
end
section
open Go.RowKit Go.ChangeShapes Go.WideShapes Go.Deep
abbrev QP := ByteArray × Int
/-- preferences at an address -/
def Qs (w : World) (a : Option Addr) (L : List QP) : Prop :=
  ∀ i (h : i < L.length), ∃ g off, a = some ⟨g, off, none⟩ ∧ w.cell? ⟨g, off + i * 2, none⟩ = some (.string L[i].1) ∧ w.cell? ⟨g, off + i * 2 + 1, none⟩ = some (.int .i64 L[i].2)
theorem Qs.below {w w' : World} {a : Option Addr} {L : List QP} (h : Qs w a L) (hb : Below w.heap.size w w') : Qs w' a L := fun i hi => by
  obtain ⟨g, off, e, c0, c1⟩ := h i hi
  exact ⟨g, off, e, (hb.cell (cell_lt c0)).trans c0, (hb.cell (cell_lt c1)).trans c1⟩
section
variable {w w' : World} {B : Nat} {v : Value}
end
end
section
open Go.RowKit
/-- two values lie at the block's start, and may be written -/
def C2 (g : Nat) (c0 c1 : Value) (w : World) : Prop :=
  (w.cell? ⟨g, 0, none⟩ = some c0 ∧ w.cell? ⟨g, 1, none⟩ = some c1) ∧ (w.frozen? ⟨g, 0, none⟩ = false ∧ w.frozen? ⟨g, 1, none⟩ = false)
section
variable {g B : Nat} {c0 c1 : Value} {w w' : World}
theorem C2.new (c0 c1 : Value) (w : World) (t : TypeId) : C2 w.heap.size c0 c1 (w.alloc (.cells #[c0, c1] t)) := by
  refine ⟨⟨?_, ?_⟩, ⟨?_, ?_⟩⟩
  all_goals first
    | (rw [World.cell?_alloc_mark]; rfl)
    | exact World.frozen?_alloc_at _ _ _ _ rfl
theorem C2.below (f : C2 g c0 c1 w) (hb : Below B w w') (hg : g < B) : C2 g c0 c1 w' := by
  obtain ⟨⟨h0, h1⟩, ⟨f0, f1⟩⟩ := f
  exact ⟨⟨(hb.cell hg).trans h0, (hb.cell hg).trans h1⟩, ⟨(hb.frozen hg).trans f0, (hb.frozen hg).trans f1⟩⟩
theorem C2.lt (f : C2 g c0 c1 w) : g < w.heap.size := cell_lt (p := ⟨g, 0, none⟩) f.1.1
theorem C2.next (f : C2 g c0 c1 w) (hb : Below w.heap.size w w') : C2 g c0 c1 w' := f.below hb f.lt
end
theorem below2 {w w1 : World} {g : Nat} (h : Below w.heap.size w w1) (hg : w.heap.size ≤ g) (v0 v1 : Value) : Below w.heap.size w ((w1.setCell ⟨g, 0, none⟩ v0).setCell ⟨g, 1, none⟩ v1) :=
  (h.setCell (p := ⟨g, 0, none⟩) hg v0).setCell (p := ⟨g, 1, none⟩) hg v1
theorem name_no {k : Int} (h1 : ¬ k = 1) (h2 : ¬ k = 2) (h3 : ¬ k = 3) (h4 : ¬ k = 4) : nameK k = ⟨#[]⟩ := by unfold nameK; rw [if_neg h1, if_neg h2, if_neg h3, if_neg h4]
theorem rName_any (k : Int) (w : World) (hk : InI64 k) :
    Calls Try.prog 11 #[.int .i64 k] w fun e w' => e = .returned (.string (nameK k)) ∧ w = w' := by
  by_cases h1 : k = 1
  · subst h1
    go_enter Try.func11, Try.ntmps11
    go_wp2
    go_ret
    exact ⟨rfl, rfl⟩
  · by_cases h2 : k = 2
    · subst h2
      go_enter Try.func11, Try.ntmps11
      go_wp2
      go_ret
      exact ⟨rfl, rfl⟩
    · by_cases h3 : k = 3
      · subst h3
        go_enter Try.func11, Try.ntmps11
        go_wp2
        go_ret
        exact ⟨rfl, rfl⟩
      · by_cases h4 : k = 4
        · subst h4
          go_enter Try.func11, Try.ntmps11
          go_wp2
          go_ret
          exact ⟨rfl, rfl⟩
        · have HV := box (name_no h1 h2 h3 h4)
          have e1 : (k == 1) = false := by rw [beq_eq_false_iff_ne]; exact h1
          have e2 : (k == 2) = false := by rw [beq_eq_false_iff_ne]; exact h2
          have e3 : (k == 3) = false := by rw [beq_eq_false_iff_ne]; exact h3
          have e4 : (k == 4) = false := by rw [beq_eq_false_iff_ne]; exact h4
          clear h1 h2 h3 h4
          go_enter Try.func11, Try.ntmps11
          go_wp2
          go_ret
          exact ⟨by rw [HV.out]; rfl, rfl⟩
theorem rName_is {k : Int} {x : ByteArray} {w : World} (hk : InI64 k) (h : Box (nameK k = x)) :
    Calls Try.prog 11 #[.int .i64 k] w fun e w' => e = .returned (.string x) ∧ w = w' :=
  (rName_any k w hk).mono fun e w' ⟨h1, h2⟩ => ⟨by rw [h1, h.out], h2⟩
theorem rFold13_is {a b : ByteArray} {q : Bool} {w : World} (ha : a.size ≤ 4294967296) (hb : b.size ≤ 4294967296) (h : Box (foldL a.data.toList b.data.toList = q)) :
    Calls Try.prog 10 #[.string a, .string b] w fun e w' => e = .returned (.bool q) ∧ Below w.heap.size w w' :=
  (rFold_any a b w ha hb).mono fun e w' ⟨h1, h2⟩ => ⟨by rw [h1, h.out], h2⟩
/-- the names ahead of j are others -/
def KdRel (n : ByteArray) (W : World) (i : Value) (wr : World) : Prop := ∃ j : Nat, i = .int .i64 j ∧ 1 ≤ j ∧ j ≤ 5 ∧ (∀ i : Nat, 1 ≤ i → i < j → foldL n.data.toList (nameK i).data.toList = false) ∧ Below W.heap.size W wr
theorem kind_at {n : ByteArray} {j : Nat} (h1 : 1 ≤ j) (h5 : j ≤ 4) (hn : ∀ i : Nat, 1 ≤ i → i < j → foldL n.data.toList (nameK i).data.toList = false) (h : foldL n.data.toList (nameK j).data.toList = true) : kindN n = (j : Int) := by
  have k1 := hn 1; have k2 := hn 2; have k3 := hn 3
  unfold kindN
  obtain rfl | rfl | rfl | rfl : j = 1 ∨ j = 2 ∨ j = 3 ∨ j = 4 := by omega
  · have h' : foldL n.data.toList nmAcc.data.toList = true := h
    rw [if_pos h']; rfl
  · have k1' : foldL n.data.toList nmAcc.data.toList = false := k1 (by omega) (by omega)
    have h' : foldL n.data.toList nmLan.data.toList = true := h
    rw [if_neg (by rw [k1']; simp), if_pos h']; rfl
  · have k1' : foldL n.data.toList nmAcc.data.toList = false := k1 (by omega) (by omega)
    have k2' : foldL n.data.toList nmLan.data.toList = false := k2 (by omega) (by omega)
    have h' : foldL n.data.toList nmCha.data.toList = true := h
    rw [if_neg (by rw [k1']; simp), if_neg (by rw [k2']; simp), if_pos h']; rfl
  · have k1' : foldL n.data.toList nmAcc.data.toList = false := k1 (by omega) (by omega)
    have k2' : foldL n.data.toList nmLan.data.toList = false := k2 (by omega) (by omega)
    have k3' : foldL n.data.toList nmCha.data.toList = false := k3 (by omega) (by omega)
    have h' : foldL n.data.toList nmCod.data.toList = true := h
    rw [if_neg (by rw [k1']; simp), if_neg (by rw [k2']; simp), if_neg (by rw [k3']; simp), if_pos h']; rfl
theorem kind_no {n : ByteArray} (hn : ∀ i : Nat, 1 ≤ i → i < 5 → foldL n.data.toList (nameK i).data.toList = false) : kindN n = 0 := by
  have k1 : foldL n.data.toList nmAcc.data.toList = false := hn 1 (by omega) (by omega)
  have k2 : foldL n.data.toList nmLan.data.toList = false := hn 2 (by omega) (by omega)
  have k3 : foldL n.data.toList nmCha.data.toList = false := hn 3 (by omega) (by omega)
  have k4 : foldL n.data.toList nmCod.data.toList = false := hn 4 (by omega) (by omega)
  unfold kindN
  rw [if_neg (by rw [k1]; simp), if_neg (by rw [k2]; simp), if_neg (by rw [k3]; simp), if_neg (by rw [k4]; simp)]
theorem name_size (k : Int) : (nameK k).size ≤ 15 := by
  unfold nameK
  split
  · decide
  · split
    · decide
    · split
      · decide
      · split
        · decide
        · decide
theorem rKind_any (n : ByteArray) (w : World) (hn : n.size ≤ 4294967296) :
    Calls Try.prog 6 #[.string n] w fun e w' => e = .returned (.int .i64 (kindN n)) ∧ Below w.heap.size w w' := by
  go_enter Try.func6, Try.ntmps6
  go_wp2
  go_loopw [3] (fun i wr => KdRel n w i wr) (fun i _ => 5 - (intOf i).toNat)
  case atStart => exact ⟨1, rfl, Nat.le_refl _, by omega, fun i h1 h2 => by omega, Below.refl _ _⟩
  case round =>
    obtain ⟨j, rfl, h1, h5, hno, hbel⟩ := hrel
    have HNO := box hno
    have BL := box hbel
    clear hno hbel
    by_cases h4 : j ≤ 4
    · have h4i : (j : Int) ≤ 4 := by omega
      have hji : InI64 (j : Int) := ⟨by omega, by omega⟩
      obtain ⟨x, hx⟩ : ∃ x, nameK j = x := ⟨_, rfl⟩
      have HX := box hx
      have hxz : x.size ≤ 4294967296 := by have := name_size j; rw [hx] at this; omega
      clear hx
      cases hf : foldL n.data.toList x.data.toList with
      | true =>
        have HF := box hf
        have HV : Box (kindN n = (j : Int)) := box (kind_at h1 h4 HNO.out (by rw [HX.out]; exact hf))
        clear hf
        go_wp2_with fail
        refine (rName_is hji HX).mono ?_; rintro e w1 ⟨rfl, rfl⟩
        go_wp2_with fail
        refine (rFold13_is hn hxz HF).mono ?_; rintro e w2 ⟨rfl, hb2⟩
        have B2 := box (BL.out.trans (hb2.mono BL.out.size))
        clear hb2
        go_wp2
        go_ret
        exact ⟨by rw [HV.out]; rfl, B2.out⟩
      | false =>
        have HF := box hf
        have HN2 : Box (∀ i : Nat, 1 ≤ i → i < j + 1 → foldL n.data.toList (nameK i).data.toList = false) := box (fun i hi1 hi2 => by
          by_cases e : i = j
          · subst e; rw [HX.out]; exact HF.out
          · exact HNO.out i hi1 (by omega))
        clear hf
        go_wp2_with fail
        refine (rName_is hji HX).mono ?_; rintro e w1 ⟨rfl, rfl⟩
        go_wp2_with fail
        refine (rFold13_is hn hxz HF).mono ?_; rintro e w2 ⟨rfl, hb2⟩
        have B2 := box (BL.out.trans (hb2.mono BL.out.size))
        clear hb2
        go_wp2
        go_roundw
        case rel => exact ⟨j + 1, by go_num, by omega, by omega, HN2.out, B2.out⟩
        case measure => simp [intOf]; omega
    · have h4i : ¬ (j : Int) ≤ 4 := by omega
      have HV : Box (kindN n = 0) := box (kind_no fun i hi1 hi2 => HNO.out i hi1 (by omega))
      go_wp2
      go_ret
      exact ⟨by rw [HV.out]; rfl, BL.out⟩
end
section
open Go.RowKit
theorem bs_list (l : List UInt8) : (bs l).toList = l := by rw [toList_data]; rfl
theorem beq_list {a b : List UInt8} {q : Bool} (h : decide (a = b) = q) : (a == b) = q := by
  rw [← h]
  by_cases e : a = b
  · rw [decide_eq_true e, e]; simp
  · rw [decide_eq_false e, beq_eq_false_iff_ne]; exact e
end
section
open Go.RowKit
theorem OwnS.drewN {w : World} {B n : Nat} {v : Value} {L : List ByteArray} (h : OwnS w B v L) : OwnS (w.drewN n) B v L := own_below h (below_drewN _ _)
def strLen : Value → Nat
  | .string s => s.size
  | _ => 0
end
section
open Go.RowKit
def chOk (first : Bool) (c : UInt8) : Bool := lettI c.toNat || (!first && digitI c.toNat)
theorem sub_chars {f : Bool} {x : List UInt8} (h1 : 1 ≤ x.length) (h8 : x.length ≤ 8) : subOk f x = x.all (chOk f) := by
  unfold subOk
  rw [decide_eq_true ⟨h1, h8⟩, Bool.true_and]; rfl
theorem sub_size {f : Bool} {x : List UInt8} (h : x.length < 1 ∨ 8 < x.length) : subOk f x = false := by
  unfold subOk
  rw [decide_eq_false (by omega), Bool.false_and]
theorem allC_more {f : UInt8 → Bool} {x : ByteArray} {m : Nat} (h : (x.data.toList.take m).all f = true) (hm : m < x.size) (hc : f x[m] = true) : (x.data.toList.take (m + 1)).all f = true := by
  rw [take_snoc x m hm, List.all_append, h]; simp [hc]
theorem allC_not {f : UInt8 → Bool} {x : ByteArray} {m : Nat} (hm : m < x.size) (hc : f x[m] = false) : x.data.toList.all f = false := by
  rw [List.all_eq_false]
  have hm2 : m < x.data.toList.length := by simpa using hm
  exact ⟨x.data.toList[m], List.getElem_mem hm2, by show ¬ f x[m] = true; rw [hc]; simp⟩
def TagI (x : ByteArray) (f : Bool) (m : Value) : Prop := ∃ k : Nat, m = .int .i64 k ∧ k ≤ x.size ∧ (x.data.toList.take k).all (chOk f) = true
end
end Go.Proofs.Ytodbmdekgfcjpaa.Asc
