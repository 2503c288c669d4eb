/- Merged texts: CtlOpen. -/
import Derived.Test.YteemoibikkmlbaaDoorZs04
import Derived.Test.YteemoibikkmlbaaDoorZs07
import Derived.Test.YteemoibikkmlbaaDoorZs12
set_option linter.unusedVariables false
set_option linter.unusedSimpArgs false
set_option maxRecDepth 100000
namespace Go.Proofs.YteemoibikkmlbaaDoor.Asc
section
open Go.RowKit Go.ChangeShapes Go.WideShapes Go.Deep
theorem eleven23 {α : Type} {l : Array α} (h : l.size = 11) : ∃ a b c d e f g i j k m, l = #[a, b, c, d, e, f, g, i, j, k, m] := by
  obtain ⟨l⟩ := l
  match l, h with
  | [a, b, c, d, e, f, g, i, j, k, m], _ => exact ⟨a, b, c, d, e, f, g, i, j, k, m, rfl⟩
theorem in23 {n : Int} (h : (Lit.int .i64 n).wf = true) : InI64 n := by
  unfold InI64
  simp [Lit.wf, IntKind.min, IntKind.max, IntKind.bits, IntKind.signed] at h
  omega
theorem open_control {H : Type} {enc : TypeId × Value → H} {W : World} {base : Nat} {sp : Nat → Bool} {held : Bool} {r : Reach} {b0 : Nat} {v : Value} {d : DataW H} {ps : List MemPlace}
    (hval : Value.okWide Tryd.prog W r b0 31 v) (h : DataW.Trod enc Tryd.prog W base sp held 31 v d ps) :
    ∃ c : CT, v = ctV c ∧ (InI64 c.ma ∧ InI64 c.sm ∧ InI64 c.mf ∧ InI64 c.ms) := by
  obtain ⟨cs, rfl, hsz⟩ := okWide_struct Tryd.underlying31 hval
  rw [show Tryd.prog.cellsOf 31 = 11 from by kernel_rfl] at hsz
  obtain ⟨c0, c1, c2, c3, c4, c5, c6, c7, c8, c9, c10, rfl⟩ := eleven23 hsz
  obtain ⟨fuel, hf⟩ := h
  obtain ⟨xs, m, _, _, _, hlen, hg⟩ := DataW.trod_struct Tryd.underlying31 hf
  have cS : Tryd.prog.cellsOf 3 = 1 := by kernel_rfl
  have cB : Tryd.prog.cellsOf 4 = 1 := by kernel_rfl
  have g0 := hg 0 _ rfl
  have g1 := hg 1 _ rfl
  have g2 := hg 2 _ rfl
  have g3 := hg 3 _ rfl
  have g4 := hg 4 _ rfl
  have g5 := hg 5 _ rfl
  have g6 := hg 6 _ rfl
  have g7 := hg 7 _ rfl
  have g8 := hg 8 _ rfl
  have g9 := hg 9 _ rfl
  have g10 := hg 10 _ rfl
  have hl : xs.length = 11 := hlen
  match xs, hl with
  | [y0, y1, y2, y3, y4, y5, y6, y7, y8, y9, y10], _ =>
    simp [Value.cells, cS, cB] at g0 g1 g2 g3 g4 g5 g6 g7 g8 g9 g10
    obtain ⟨b0, e0, _⟩ := DataW.trod_bool Tryd.underlying4 g0
    obtain ⟨b1, e1, _⟩ := DataW.trod_bool Tryd.underlying4 g1
    obtain ⟨b2, e2, _⟩ := DataW.trod_bool Tryd.underlying4 g2
    obtain ⟨b3, e3, _⟩ := DataW.trod_bool Tryd.underlying4 g3
    obtain ⟨b4, e4, _⟩ := DataW.trod_bool Tryd.underlying4 g4
    obtain ⟨b5, e5, _⟩ := DataW.trod_bool Tryd.underlying4 g5
    obtain ⟨b6, e6, _⟩ := DataW.trod_bool Tryd.underlying4 g6
    obtain ⟨n7, e7, _, w7⟩ := DataW.trod_int Tryd.underlying3 g7
    obtain ⟨n8, e8, _, w8⟩ := DataW.trod_int Tryd.underlying3 g8
    obtain ⟨n9, e9, _, w9⟩ := DataW.trod_int Tryd.underlying3 g9
    obtain ⟨n10, e10, _, w10⟩ := DataW.trod_int Tryd.underlying3 g10
    simp at e0 e1 e2 e3 e4 e5 e6 e7 e8 e9 e10
    subst e0 e1 e2 e3 e4 e5 e6 e7 e8 e9 e10
    exact ⟨⟨b0, b1, b2, b3, b4, b5, b6, n7, n8, n9, n10⟩, rfl, in23 w7, in23 w8, in23 w9, in23 w10⟩
end
end Go.Proofs.YteemoibikkmlbaaDoor.Asc
