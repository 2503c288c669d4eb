/- Merged texts: AscDec AscRDec ParRef2 MedRef2 AccSpec LisRef3 LisRef4. -/
import Derived.Test.YtodbmdekgfcjpaaM01
import Derived.Test.YtodbmdekgfcjpaaM02
import Derived.Test.YtodbmdekgfcjpaaM03
import Derived.Test.YtodbmdekgfcjpaaM04
import Derived.Test.YtodbmdekgfcjpaaM05
import Derived.Test.YtodbmdekgfcjpaaM06
import Derived.Laws.AppendOwnNone
import Derived.OwnWalk
set_option linter.unusedVariables false
set_option linter.unusedSimpArgs false
set_option maxRecDepth 100000
namespace Go.Proofs.Ytodbmdekgfcjpaa.Asc
section
open Go.RowKit
def InI64 (n : Int) : Prop := -9223372036854775808 ≤ n ∧ n ≤ 9223372036854775807
end
section
open Go.RowKit
/-- how far the digits have come -/
def RDec (N m : Nat) (acc : List UInt8) : Prop := DecAt N m acc ∨ (m = 0 ∧ 1 ≤ acc.length ∧ acc.length ≤ 19 ∧ decF 20 N [] = acc)
theorem RDec.next {N m : Nat} {acc : List UInt8} (h : DecAt N m acc) : RDec N (m / 10) (digB m :: acc) := by
  by_cases hm : m / 10 = 0
  · have := h.len
    exact .inr ⟨hm, by simp, by simp; omega, h.fin hm⟩
  · exact .inl (h.step hm)
theorem RDec.step {N m : Nat} {acc : List UInt8} (h : DecAt N m acc) : Hid (RDec N (m / 10) (digB m :: acc)) := Lib.hid (RDec.next h)
end
section
open Go.RowKit
theorem escL_len : ∀ l : List UInt8, (escL l).length ≤ 2 * l.length
  | [] => by simp [escL]
  | c :: r => by
    have ih := escL_len r
    have e : escL (c :: r) = escB c ++ escL r := rfl
    have h1 : (escB c).length ≤ 2 := by unfold escB; split <;> simp
    rw [e, List.length_append, List.length_cons]; omega
end
section
open Go.RowKit
theorem media_cases (l : List UInt8) : mediaL l = if (rangeL l).isSome = true then (if (ofM (rangeL l)).1 = star ∨ (ofM (rangeL l)).2.1 = star then none else some (ofM (rangeL l))) else none := by
  unfold mediaL ofM
  cases h : rangeL l with
  | none => rfl
  | some x => obtain ⟨a, b, L⟩ := x; rfl
theorem star_eq {x : ByteArray} {b : Bool} (h : (x.toList == [42]) = b) : x = star ↔ b = true := by
  rw [← star_is h]
  constructor
  · intro e; rw [e]; rfl
  · intro e; rw [bs_of x, e]; rfl
end
section
def nmAcc : ByteArray := ⟨#[65, 99, 99, 101, 112, 116]⟩
def nmLan : ByteArray := ⟨#[65, 99, 99, 101, 112, 116, 45, 76, 97, 110, 103, 117, 97, 103, 101]⟩
def nmCha : ByteArray := ⟨#[65, 99, 99, 101, 112, 116, 45, 67, 104, 97, 114, 115, 101, 116]⟩
def nmCod : ByteArray := ⟨#[65, 99, 99, 101, 112, 116, 45, 69, 110, 99, 111, 100, 105, 110, 103]⟩
def nameK (k : Int) : ByteArray := if k = 1 then nmAcc else if k = 2 then nmLan else if k = 3 then nmCha else if k = 4 then nmCod else ⟨#[]⟩
def kindN (n : ByteArray) : Int :=
  if foldL n.data.toList nmAcc.data.toList = true then 1
  else if foldL n.data.toList nmLan.data.toList = true then 2
  else if foldL n.data.toList nmCha.data.toList = true then 3
  else if foldL n.data.toList nmCod.data.toList = true then 4 else 0
end
section
open Go.RowKit
def allB (nm : ByteArray) (L : List F) : List ByteArray := (allL nm L).map bs
def AllRel (vs : List ByteArray) (B : Nat) (w : World) (v i : Value) (wr : World) : Prop :=
  ∃ k : Nat, i = .int .i64 k ∧ k ≤ vs.length ∧ OwnS wr B v (((allF (vs.take k)).take 64).map bs) ∧ Below w.heap.size w wr
end
section
open Go.RowKit
def joinB (L : List ByteArray) : ByteArray := bs (joinC (L.map fun x => x.data.toList))
end
end Go.Proofs.Ytodbmdekgfcjpaa.Asc
