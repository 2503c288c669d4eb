/- Merged texts: SelLaws5 ClsRef2. -/
import Derived.Test.YtklfpkaemnhdhaaGreatDoorZa04
import Derived.Test.YtklfpkaemnhdhaaGreatDoorZa05
import Derived.Test.YtklfpkaemnhdhaaGreatDoorZa06
import Derived.Test.YtklfpkaemnhdhaaGreatDoorZa07
import Derived.Test.YtklfpkaemnhdhaaGreatDoorZa10
import Derived.Test.YtklfpkaemnhdhaaGreatDoorZa11
import Derived.Test.YtklfpkaemnhdhaaGreatDoorZa16
set_option linter.unusedVariables false
set_option linter.unusedSimpArgs false
set_option maxRecDepth 100000
namespace Go.Proofs.YtklfpkaemnhdhaaGreatDoor.Asc
section
open Go.RowKit Go.ChangeShapes Go.WideShapes Go.Deep
theorem open_fieldsn {H : Type} {enc : TypeId × Value → H} {W : World} {base : Nat} {sp : Nat → Bool} {held : Bool} {r : Reach} {b0 : Nat} {v : Value} {d : DataW H} {p : List MemPlace}
    (hval : Value.okWide Tryz.prog W r b0 23 v) (h : DataW.Trod enc Tryz.prog W base sp held 23 v d p) :
    ∃ (a : Option Addr) (cap : Nat) (L : List F), v = .slice a L.length cap ∧ L.length ≤ maxLen ∧ Fs W a L ∧ (L.length ≤ cap ∧ (a = none → cap = 0)) := by
  have h2 := h
  obtain ⟨a, cap, L, rfl, h3, h4, h5⟩ := open_fields hval h
  refine ⟨a, cap, L, rfl, h3, h4, h5, fun ha => ?_⟩
  subst ha
  obtain ⟨fuel, hf⟩ := h2
  rcases open_slice_pairs Tryz.underlying23 Tryz.underlying42 (by kernel_rfl) rfl rfl (by kernel_rfl) (by kernel_rfl) hf with ⟨hcs, hx⟩ | ⟨a, len', cap', m, n, V0, V1, D0, D1, P0, P1, hcs, _⟩
  · simp [Value.cells] at hcs
    exact hcs.2
  · simp [Value.cells] at hcs
section
variable {ops : Array Oper} {o : Oper} {a : Act} {K : Act → World → Prop} {Q : Exit → Act → World → Prop} {E : Prop}
end
theorem wpList_append_flds17 (w : World) {ops : Array Oper} {rest : List Oper} {o : Oper} {a : Act} {Q : Exit → Act → World → Prop} (hgd : o.guard = none) (s x : Operand)
    (ho : o.op = .call { callee := .builtin .append, args := #[s, x], argTypes := #[23, 23] })
    (B : Nat) (v : Value) (L M : List F) (hs : a.eval s = v) (hown : OwnF w B v L)
    (ad : Option Addr) (m c : Nat) (hx : a.eval x = .slice ad m c) (hm : M.length = m) (hn : ad = none → c = 0) (hM : Fs w ad M) (hl : L.length ≤ 65536) (hm6 : M.length ≤ 65536) (hB : B ≤ w.heap.size)
    (h : ∀ v' w', OwnF w' B v' (L ++ M) → Below B w w' → wpList Tryz.prog ops Q rest (a.put o.dst v') w') : wpList Tryz.prog ops Q (o :: rest) a w := by
  subst hm
  exact wpList_append_flds w hgd s x ho B v L M hs hown ad c hx hn hM hl hm6 hB h
theorem Fs.nil17 (w : World) (a : Option Addr) : Fs w a [] := fun i hi => absurd hi (by simp)
end
section
open Go.RowKit
theorem rRem18_is {a : Option Addr} {cap n : Nat} {L M : List F} {nm : ByteArray} {w : World} (FL : Box (FitL L)) (hm : Box (nm.size ≤ 65536)) (hF : Fs w a L) (h : Box (remL nm L = M)) (hn : Box (L.length = n)) :
    Calls Tryz.prog 25 #[.slice a n cap, .string nm] w fun e w' => ∃ v, e = .returned v ∧ OwnF w' w.heap.size v M ∧ Below w.heap.size w w' := by
  have := rRemove_any a cap L nm w FL.out.1.1 (box FL.out.1) hm (box hF)
  rw [h.out, hn.out] at this; exact this
end
end Go.Proofs.YtklfpkaemnhdhaaGreatDoor.Asc
