/- An argument that is a URI by value, opened. -/
import Derived.Test.YtilodlmjamaiiaaTarRKey
import Derived.ProofKit
import Derived.Deep.Fields
import Derived.Carry
set_option linter.unusedVariables false
set_option linter.unusedSimpArgs false
namespace Go.Proofs.Ytilodlmjamaiiaa.Asc
open Go.RowKit Go.ChangeShapes Go.WideShapes Go.Deep

theorem laidT : laidOutB Try.prog = true := by kernel_rfl
theorem five {α : Type} {cs : Array α} (h : cs.size = 5) : ∃ c0 c1 c2 c3 c4, cs = #[c0, c1, c2, c3, c4] := by
  obtain ⟨l⟩ := cs
  match l, h with
  | [c0, c1, c2, c3, c4], _ => exact ⟨c0, c1, c2, c3, c4, rfl⟩
theorem open_uri {H : Type} {enc : TypeId × Value → H} {W : World} {base : Nat} {sp : Nat → Bool} {held : Bool} {r : Reach} {b0 : Nat} {v : Value} {d : DataW H} {ps : List MemPlace}
    (hval : Value.okWide Try.prog W r b0 23 v) (h : DataW.Trod enc Try.prog W base sp held 23 v d ps) :
    ∃ (x : ByteArray) (n : Int) (p q : ByteArray) (b : Bool), v = uV x n p q b ∧ x.size ≤ maxLen ∧ (Lit.int .i64 n).wf = true ∧ p.size ≤ maxLen ∧ q.size ≤ maxLen := by
  obtain ⟨cs, rfl, hsz⟩ := okWide_struct Try.underlying23 hval
  rw [show Try.prog.cellsOf 23 = 5 from by kernel_rfl] at hsz
  obtain ⟨c0, c1, c2, c3, c4, rfl⟩ := five hsz
  obtain ⟨fuel, hf⟩ := h
  obtain ⟨xs, m, _, _, _, hlen, hg⟩ := DataW.trod_struct Try.underlying23 hf
  have cS : Try.prog.cellsOf 9 = 1 := by kernel_rfl
  have cI : Try.prog.cellsOf 3 = 1 := by kernel_rfl
  have cB : Try.prog.cellsOf 4 = 1 := by kernel_rfl
  have g0 := hg 0 _ rfl
  have g1 := hg 1 _ rfl
  have g2 := hg 2 _ rfl
  have g3 := hg 3 _ rfl
  have g4 := hg 4 _ rfl
  have hl : xs.length = 5 := hlen
  match xs, hl with
  | [y0, y1, y2, y3, y4], _ =>
    simp [Value.cells, cS, cI, cB] at g0 g1 g2 g3 g4
    obtain ⟨x, e0, _, w0⟩ := DataW.trod_string Try.underlying9 g0
    obtain ⟨n, e1, _, w1⟩ := DataW.trod_int Try.underlying3 g1
    obtain ⟨p, e2, _, w2⟩ := DataW.trod_string Try.underlying9 g2
    obtain ⟨q, e3, _, w3⟩ := DataW.trod_string Try.underlying9 g3
    obtain ⟨b, e4, _⟩ := DataW.trod_bool Try.underlying4 g4
    simp at e0 e1 e2 e3 e4
    subst e0 e1 e2 e3 e4
    exact ⟨x, n, p, q, b, rfl, w0, w1, w2, w3⟩

end Go.Proofs.Ytilodlmjamaiiaa.Asc
