/- Merged texts: MsgOpenN. -/
import Derived.Test.YtiogngfemelifaaDoorZs04
import Derived.Test.YtiogngfemelifaaDoorZs12
set_option linter.unusedVariables false
set_option linter.unusedSimpArgs false
set_option maxRecDepth 100000
namespace Go.Proofs.YtiogngfemelifaaDoor.Asc
section
open Go.RowKit Go.ChangeShapes Go.WideShapes Go.Deep
theorem fields_trodn {H : Type} {enc : TypeId × Value → H} {W : World} {base fuel : Nat} {sp : Nat → Bool} {held : Bool} {cs : List Value} {x : DataW H × List MemPlace}
    (h : DataW.trod enc Tryd.prog W base sp held fuel 22 cs = some x) :
    ∃ (a : Option Addr) (cap : Nat) (L : List F), cs = [.slice a L.length cap] ∧ L.length ≤ maxLen ∧ Fs W a L ∧ (L.length ≤ cap ∧ (a = none → cap = 0)) := by
  rcases open_slice_pairs Tryd.underlying22 Tryd.underlying30 (by kernel_rfl) rfl rfl (by kernel_rfl) (by kernel_rfl) h with ⟨hcs, hx⟩ | ⟨a, len, cap, m, n, V0, V1, D0, D1, P0, P1, hcs, _, hl, hm, hmm, hx, hi⟩
  · exact ⟨none, 0, [], hcs, Nat.zero_le _, fun i hi => absurd hi (by simp), Nat.le_refl _, fun _ => rfl⟩
  · have hlm : len ≤ m := by rw [hmm]; split <;> omega
    refine ⟨some a, cap, (List.range len).map fun i => (strOf (V0 i), strOf (V1 i)), by simpa using hcs, by simp; omega, fun i hi2 => ?_, by simp; omega, fun h => by cases h⟩
    have hil : i < len := by simpa using hi2
    obtain ⟨g, off, spot⟩ := a
    obtain ⟨z0, _, _, _⟩ := hi 0 (by omega)
    have hspot : spot = none := by simpa [Addr.add] using World.cell?_spot z0
    subst hspot
    obtain ⟨k0, k1, t0, t1⟩ := hi i (by omega)
    obtain ⟨s0, e0, _, _⟩ := DataW.trod_string Tryd.underlying9 t0
    obtain ⟨s1, e1, _, _⟩ := DataW.trod_string Tryd.underlying9 t1
    rw [add_plain] at k0 k1
    simp at e0 e1
    refine ⟨g, off, rfl, ?_, ?_⟩
    · rw [k0, e0]; simp [strOf, e0]
    · rw [← Nat.add_assoc] at k1
      rw [k1, e1]; simp [strOf, e1]
theorem open_requestn {H : Type} {enc : TypeId × Value → H} {W : World} {base : Nat} {sp : Nat → Bool} {held : Bool} {r : Reach} {b0 : Nat} {v : Value} {d : DataW H} {ps : List MemPlace}
    (hval : Value.okWide Tryd.prog W r b0 24 v) (h : DataW.Trod enc Tryd.prog W base sp held 24 v d ps) :
    ∃ (m t : ByteArray) (n : Int) (a : Option Addr) (cap : Nat) (L : List F) (b : ByteArray), v = rqV m t n a cap L b ∧ m.size ≤ maxLen ∧ t.size ≤ maxLen ∧ (Lit.int .i64 n).wf = true ∧ L.length ≤ maxLen ∧ Fs W a L ∧ b.size ≤ maxLen ∧ (L.length ≤ cap ∧ (a = none → cap = 0)) := by
  obtain ⟨cs, rfl, hsz⟩ := okWide_struct Tryd.underlying24 hval
  rw [show Tryd.prog.cellsOf 24 = 5 from by kernel_rfl] at hsz
  obtain ⟨c0, c1, c2, c3, c4, rfl⟩ := five hsz
  obtain ⟨fuel, hf⟩ := h
  obtain ⟨xs, m, _, _, _, hlen, hg⟩ := DataW.trod_struct Tryd.underlying24 hf
  have cS : Tryd.prog.cellsOf 9 = 1 := by kernel_rfl
  have cI : Tryd.prog.cellsOf 3 = 1 := by kernel_rfl
  have cF : Tryd.prog.cellsOf 22 = 1 := by kernel_rfl
  have g0 := hg 0 _ rfl
  have g1 := hg 1 _ rfl
  have g2 := hg 2 _ rfl
  have g3 := hg 3 _ rfl
  have g4 := hg 4 _ rfl
  have hl : xs.length = 5 := hlen
  match xs, hl with
  | [y0, y1, y2, y3, y4], _ =>
    simp [Value.cells, cS, cI, cF] at g0 g1 g2 g3 g4
    obtain ⟨x, e0, _, w0⟩ := DataW.trod_string Tryd.underlying9 g0
    obtain ⟨y, e1, _, w1⟩ := DataW.trod_string Tryd.underlying9 g1
    obtain ⟨n, e2, _, w2⟩ := DataW.trod_int Tryd.underlying3 g2
    obtain ⟨a, cap, L, e3, l3, f3, z3⟩ := fields_trodn g3
    obtain ⟨q, e4, _, w4⟩ := DataW.trod_string Tryd.underlying9 g4
    simp at e0 e1 e2 e3 e4
    subst e0 e1 e2 e3 e4
    exact ⟨x, y, n, a, cap, L, q, rfl, w0, w1, w2, l3, f3, w4, z3⟩
theorem open_responsen {H : Type} {enc : TypeId × Value → H} {W : World} {base : Nat} {sp : Nat → Bool} {held : Bool} {r : Reach} {b0 : Nat} {v : Value} {d : DataW H} {ps : List MemPlace}
    (hval : Value.okWide Tryd.prog W r b0 26 v) (h : DataW.Trod enc Tryd.prog W base sp held 26 v d ps) :
    ∃ (n s : Int) (t : ByteArray) (a : Option Addr) (cap : Nat) (L : List F) (b : ByteArray), v = rsV n s t a cap L b ∧ (Lit.int .i64 n).wf = true ∧ (Lit.int .i64 s).wf = true ∧ t.size ≤ maxLen ∧ L.length ≤ maxLen ∧ Fs W a L ∧ b.size ≤ maxLen ∧ (L.length ≤ cap ∧ (a = none → cap = 0)) := by
  obtain ⟨cs, rfl, hsz⟩ := okWide_struct Tryd.underlying26 hval
  rw [show Tryd.prog.cellsOf 26 = 5 from by kernel_rfl] at hsz
  obtain ⟨c0, c1, c2, c3, c4, rfl⟩ := five hsz
  obtain ⟨fuel, hf⟩ := h
  obtain ⟨xs, m, _, _, _, hlen, hg⟩ := DataW.trod_struct Tryd.underlying26 hf
  have cS : Tryd.prog.cellsOf 9 = 1 := by kernel_rfl
  have cI : Tryd.prog.cellsOf 3 = 1 := by kernel_rfl
  have cF : Tryd.prog.cellsOf 22 = 1 := by kernel_rfl
  have g0 := hg 0 _ rfl
  have g1 := hg 1 _ rfl
  have g2 := hg 2 _ rfl
  have g3 := hg 3 _ rfl
  have g4 := hg 4 _ rfl
  have hl : xs.length = 5 := hlen
  match xs, hl with
  | [y0, y1, y2, y3, y4], _ =>
    simp [Value.cells, cS, cI, cF] at g0 g1 g2 g3 g4
    obtain ⟨x, e0, _, w0⟩ := DataW.trod_int Tryd.underlying3 g0
    obtain ⟨y, e1, _, w1⟩ := DataW.trod_int Tryd.underlying3 g1
    obtain ⟨n, e2, _, w2⟩ := DataW.trod_string Tryd.underlying9 g2
    obtain ⟨a, cap, L, e3, l3, f3, z3⟩ := fields_trodn g3
    obtain ⟨q, e4, _, w4⟩ := DataW.trod_string Tryd.underlying9 g4
    simp at e0 e1 e2 e3 e4
    subst e0 e1 e2 e3 e4
    exact ⟨x, y, n, a, cap, L, q, rfl, w0, w1, w2, l3, f3, w4, z3⟩
end
end Go.Proofs.YtiogngfemelifaaDoor.Asc
