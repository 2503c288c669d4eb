/- Merged texts: AscDec AscRDec MedRef2 AccSpec LisRef3 LisKeep VarSpec. -/
import Derived.Test.YtcnohcbhnldglaaM01
import Derived.Test.YtcnohcbhnldglaaM02
import Derived.Test.YtcnohcbhnldglaaM03
import Derived.Test.YtcnohcbhnldglaaM04
import Derived.Test.YtcnohcbhnldglaaM06
import Derived.Laws.AppendOwnNone
import Derived.OwnWalk
set_option linter.unusedVariables false
set_option linter.unusedSimpArgs false
set_option maxRecDepth 100000
namespace Go.Proofs.Ytcnohcbhnldglaa.Asc
section
open Go.RowKit
def InI64 (n : Int) : Prop := -9223372036854775808 ≤ n ∧ n ≤ 9223372036854775807
end
section
open Go.RowKit
/-- how far the digits have come -/
def RDec (N m : Nat) (acc : List UInt8) : Prop := DecAt N m acc ∨ (m = 0 ∧ 1 ≤ acc.length ∧ acc.length ≤ 19 ∧ decF 20 N [] = acc)
theorem RDec.next {N m : Nat} {acc : List UInt8} (h : DecAt N m acc) : RDec N (m / 10) (digB m :: acc) := by
  by_cases hm : m / 10 = 0
  · have := h.len
    exact .inr ⟨hm, by simp, by simp; omega, h.fin hm⟩
  · exact .inl (h.step hm)
theorem RDec.step {N m : Nat} {acc : List UInt8} (h : DecAt N m acc) : Hid (RDec N (m / 10) (digB m :: acc)) := Lib.hid (RDec.next h)
end
section
open Go.RowKit
theorem media_cases (l : List UInt8) : mediaL l = if (rangeL l).isSome = true then (if (ofM (rangeL l)).1 = star ∨ (ofM (rangeL l)).2.1 = star then none else some (ofM (rangeL l))) else none := by
  unfold mediaL ofM
  cases h : rangeL l with
  | none => rfl
  | some x => obtain ⟨a, b, L⟩ := x; rfl
theorem star_eq {x : ByteArray} {b : Bool} (h : (x.toList == [42]) = b) : x = star ↔ b = true := by
  rw [← star_is h]
  constructor
  · intro e; rw [e]; rfl
  · intro e; rw [bs_of x, e]; rfl
end
section
def nmAcc : ByteArray := ⟨#[65, 99, 99, 101, 112, 116]⟩
def nmLan : ByteArray := ⟨#[65, 99, 99, 101, 112, 116, 45, 76, 97, 110, 103, 117, 97, 103, 101]⟩
def nmCha : ByteArray := ⟨#[65, 99, 99, 101, 112, 116, 45, 67, 104, 97, 114, 115, 101, 116]⟩
def nmCod : ByteArray := ⟨#[65, 99, 99, 101, 112, 116, 45, 69, 110, 99, 111, 100, 105, 110, 103]⟩
def nameK (k : Int) : ByteArray := if k = 1 then nmAcc else if k = 2 then nmLan else if k = 3 then nmCha else if k = 4 then nmCod else ⟨#[]⟩
def kindN (n : ByteArray) : Int :=
  if foldL n.data.toList nmAcc.data.toList = true then 1
  else if foldL n.data.toList nmLan.data.toList = true then 2
  else if foldL n.data.toList nmCha.data.toList = true then 3
  else if foldL n.data.toList nmCod.data.toList = true then 4 else 0
end
section
open Go.RowKit
def allB (nm : ByteArray) (L : List F) : List ByteArray := (allL nm L).map bs
def AllRel (vs : List ByteArray) (B : Nat) (w : World) (v i : Value) (wr : World) : Prop :=
  ∃ k : Nat, i = .int .i64 k ∧ k ≤ vs.length ∧ OwnS wr B v (((allF (vs.take k)).take 64).map bs) ∧ Below w.heap.size w wr
end
section
open Go.RowKit
def okS (x : ByteArray) : Bool := decide (x.size ≤ 100)
def keepS (L : List ByteArray) : Bool := decide (L.length ≤ 20) && L.all okS
theorem keepS_bad {L : List ByteArray} {k : Nat} (h : k < L.length) (e : ¬ L[k].size ≤ 100) : keepS L = false := by
  unfold keepS
  have : L.all okS = false := by
    rw [List.all_eq_false]
    exact ⟨L[k], List.getElem_mem h, by unfold okS; simpa using e⟩
  rw [this, Bool.and_false]
theorem keepS_long {L : List ByteArray} (h : ¬ L.length ≤ 20) : keepS L = false := by unfold keepS; rw [decide_eq_false h, Bool.false_and]
theorem keepS_more {L : List ByteArray} {k : Nat} (h : k < L.length) (ha : (L.take k).all okS = true) (e : L[k].size ≤ 100) : (L.take (k + 1)).all okS = true := by
  rw [List.take_add_one, List.getElem?_eq_getElem h, List.all_append, ha]
  simp [okS, e]
theorem keepS_end {L : List ByteArray} (ha : (L.take L.length).all okS = true) (h : L.length ≤ 20) : keepS L = true := by
  rw [List.take_length] at ha
  unfold keepS; rw [ha, decide_eq_true h]; rfl
theorem keepS_small {L : List ByteArray} (h : keepS L = true) : L.length ≤ 20 ∧ ∀ x ∈ L, x.size ≤ 100 := by
  unfold keepS at h
  rw [Bool.and_eq_true, decide_eq_true_eq, List.all_eq_true] at h
  exact ⟨h.1, fun x hx => by have := h.2 x hx; unfold okS at this; simpa using this⟩
theorem keepStrings_any (a : Option Addr) (cap : Nat) (L : List ByteArray) (w : World) (hl : L.length ≤ maxLen) (hF : Box (Ss w a L)) :
    Calls Try.prog 9 #[.slice a L.length cap] w fun e w' => e = .returned (.bool (keepS L)) ∧ w = w' := by
  unfold maxLen at hl
  go_enter Try.func9, Try.ntmps9
  go_wp2
  go_loop [3] (fun i => ∃ k : Nat, k ≤ L.length ∧ k ≤ 21 ∧ i = .int .i64 k ∧ (L.take k).all okS = true) (fun i => 21 - (intOf i).toNat)
  case atStart => exact ⟨0, Nat.zero_le _, Nat.zero_le _, rfl, rfl⟩
  case round =>
    obtain ⟨k, hk, hk71, rfl, hall⟩ := hrel
    have HA := box hall
    clear hall
    by_cases hlt : k < L.length
    · by_cases h71 : k < 21
      · obtain ⟨g, off, rfl, c0⟩ := hF.out k hlt
        by_cases e1 : L[k].size ≤ 100
        · have ei : ¬ (100 : Int) < (L[k].size : Int) := by omega
          have HN := box (keepS_more hlt HA.out e1)
          clear e1
          go_wp2
          go_round
          case rel => exact ⟨k + 1, by omega, by omega, by go_num, HN.out⟩
          case measure => simp [intOf]; omega
        · have ei : (100 : Int) < (L[k].size : Int) := by omega
          have HN := box (keepS_bad hlt e1)
          clear e1
          go_wp2
          go_ret
          exact ⟨ret_bool HN.out.symm, rfl⟩
      · go_wp2
        go_ret
        exact ⟨ret_bool (by rw [keepS_long (by omega)]; simp; omega), rfl⟩
    · have e : k = L.length := by omega
      have E := box e
      clear e
      by_cases h70 : L.length ≤ 20
      · go_wp2
        go_ret
        refine ⟨ret_bool ?_, rfl⟩
        have ha := HA.out
        rw [E.out] at ha
        rw [keepS_end ha h70]
        simp; omega
      · go_wp2
        go_ret
        exact ⟨ret_bool (by rw [keepS_long h70]; simp; omega), rfl⟩
end
section
abbrev AX := ByteArray × List ByteArray
def noB : ByteArray := ⟨#[]⟩
def qName : ByteArray := ⟨#[113]⟩
def atS (L : List ByteArray) (i : Nat) : ByteArray := L.getD i noB
def atP (L : List F) (i : Nat) : ByteArray := (L.getD i (noB, noB)).1
def atA (L : List AX) (i : Nat) : AX := L.getD i (noB, [])
/-- the first k names of parameters differ from the one at i -/
def newP (L : List F) (i k : Nat) : Bool := (List.range k).all fun j => decide (atP L i ≠ atP L j)
/-- the first n parameters have names of their own, none of them q -/
def ownP (L : List F) (n : Nat) : Bool := (List.range n).all fun i => newP L i i && decide (atP L i ≠ qName)
def valueV (n x : ByteArray) : Bool :=
  if kindN n = 1 then (mediaL x.data.toList).isSome && ownP (ofM (mediaL x.data.toList)).2.2 (ofM (mediaL x.data.toList)).2.2.length
  else if kindN n = 2 then tagL x.data.toList
  else if kindN n = 3 ∨ kindN n = 4 then tokL x.data.toList && decide (x ≠ star)
  else decide (1 ≤ x.size) && decide (x.size ≤ 100) && textL x.data.toList && decide (trimL x.data.toList = x.data.toList)
def sameV (n x y : ByteArray) : Bool :=
  if kindN n = 1 ∨ kindN n = 2 then foldL x.data.toList y.data.toList
  else if kindN n = 3 ∨ kindN n = 4 then decide (canL (kindN n) x.data.toList = canL (kindN n) y.data.toList)
  else decide (x = y)
/-- the value at i is the Same as none of the first k -/
def newV (n : ByteArray) (V : List ByteArray) (i k : Nat) : Bool := (List.range k).all fun j => !sameV n (atS V i) (atS V j)
def valsV (n : ByteArray) (V : List ByteArray) (m : Nat) : Bool := (List.range m).all fun i => valueV n (atS V i) && newV n V i i
def headV (n : ByteArray) (V : List ByteArray) : Bool := tokL n.data.toList && decide (lowL n.data.toList = n.data.toList) && decide (1 ≤ V.length) && decide (V.length ≤ 16)
def validA (x : AX) : Bool := headV x.1 x.2 && valsV x.1 x.2 x.2.length
def newA (L : List AX) (i k : Nat) : Bool := (List.range k).all fun j => decide ((atA L i).1 ≠ (atA L j).1)
def axesV (L : List AX) (m : Nat) : Bool := (List.range m).all fun i => validA (atA L i) && newA L i i
def validX (L : List AX) : Bool := decide (1 ≤ L.length) && decide (L.length ≤ 4) && axesV L L.length
theorem range_more (n : Nat) (f : Nat → Bool) : (List.range (n + 1)).all f = ((List.range n).all f && f n) := by
  rw [List.range_succ, List.all_append]; simp
theorem ownP_more (L : List F) (n : Nat) : ownP L (n + 1) = (ownP L n && (newP L n n && decide (atP L n ≠ qName))) := range_more _ _
theorem valsV_more (n : ByteArray) (V : List ByteArray) (m : Nat) : valsV n V (m + 1) = (valsV n V m && (valueV n (atS V m) && newV n V m m)) := range_more _ _
theorem axesV_more (L : List AX) (m : Nat) : axesV L (m + 1) = (axesV L m && (validA (atA L m) && newA L m m)) := range_more _ _
theorem range_no {n i : Nat} {f : Nat → Bool} (h : i < n) (hf : f i = false) : (List.range n).all f = false := by
  rw [List.all_eq_false]; exact ⟨i, List.mem_range.2 h, by simp [hf]⟩
theorem atS_is {L : List ByteArray} {i : Nat} (h : i < L.length) : atS L i = L[i] := by unfold atS; simp [h]
theorem atP_is {L : List F} {i : Nat} (h : i < L.length) : atP L i = L[i].1 := by unfold atP; simp [h]
theorem atA_is {L : List AX} {i : Nat} (h : i < L.length) : atA L i = L[i] := by unfold atA; simp [h]
def okA (x : AX) : Bool := decide (x.1.size ≤ 100) && keepS x.2
def keepA (L : List AX) : Bool := L.all okA && decide (L.length ≤ 6)
theorem keepA_more {L : List AX} {k : Nat} (h : k < L.length) (ha : (L.take k).all okA = true) (h1 : L[k].1.size ≤ 100) (h2 : keepS L[k].2 = true) : (L.take (k + 1)).all okA = true := by
  rw [take_next h, List.all_append, ha]
  simp [okA, h1, h2]
theorem keepA_bad {L : List AX} {k : Nat} (h : k < L.length) (h1 : okA L[k] = false) : keepA L = false := by
  have : L.all okA = false := by rw [List.all_eq_false]; exact ⟨L[k], List.getElem_mem h, by simp [h1]⟩
  unfold keepA; rw [this]; rfl
theorem keepA_long {L : List AX} (h : ¬ L.length ≤ 6) : keepA L = false := by unfold keepA; simp [h]
theorem keepA_end {L : List AX} (ha : (L.take L.length).all okA = true) (h : L.length ≤ 6) : keepA L = true := by
  rw [List.take_length] at ha
  unfold keepA; rw [ha]; simp [h]
theorem keepA_parts {L : List AX} (h : keepA L = true) : L.length ≤ 6 ∧ ∀ i (hi : i < L.length), L[i].1.size ≤ 100 ∧ L[i].2.length ≤ 20 ∧ ∀ x ∈ L[i].2, x.size ≤ 100 := by
  unfold keepA at h
  simp only [Bool.and_eq_true, decide_eq_true_eq] at h
  refine ⟨h.2, fun i hi => ?_⟩
  have := List.all_eq_true.mp h.1 L[i] (List.getElem_mem hi)
  unfold okA at this
  rw [Bool.and_eq_true, decide_eq_true_eq] at this
  exact ⟨this.1, keepS_small this.2⟩
theorem choose_list {α : Type} {P : Nat → α → Prop} : ∀ n, (∀ i, i < n → ∃ x, P i x) → ∃ L : List α, L.length = n ∧ ∀ i (h : i < L.length), P i L[i]
  | 0, _ => ⟨[], rfl, fun i h => absurd h (by simp)⟩
  | n + 1, h => by
    obtain ⟨L, hl, hL⟩ := choose_list n (fun i hi => h i (by omega))
    obtain ⟨x, hx⟩ := h n (by omega)
    refine ⟨L ++ [x], by simp [hl], fun i hi => ?_⟩
    by_cases e : i < L.length
    · rw [List.getElem_append_left e]; exact hL i e
    · have : i = n := by rw [List.length_append] at hi; simp at hi; omega
      subst this
      rw [List.getElem_append_right (by omega)]
      simpa using hx
end
end Go.Proofs.Ytcnohcbhnldglaa.Asc
