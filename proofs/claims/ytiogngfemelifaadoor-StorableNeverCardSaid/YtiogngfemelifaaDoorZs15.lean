/- Merged texts: MsgSet And3. -/
import Derived.Test.YtiogngfemelifaaDoorZs03
import Derived.Test.YtiogngfemelifaaDoorZs12
import Derived.Lib.QuoteBits
set_option linter.unusedVariables false
set_option linter.unusedSimpArgs false
set_option maxRecDepth 100000
namespace Go.Proofs.YtiogngfemelifaaDoor.Asc
section
open Go.RowKit
section
variable {g : Nat} {c0 c1 c2 c3 c4 : Value} {w : World}
theorem C5.set3 (f : C5 g c0 c1 c2 c3 c4 w) (v : Value) : C5 g c0 c1 c2 v c4 (w.setCell ⟨g, 3, none⟩ v) := by
  obtain ⟨⟨h0, h1, h2, h3, h4⟩, f0⟩ := f
  refine ⟨⟨?_, ?_, ?_, ?_, ?_⟩, by simpa only [World.frozen?_setCell] using f0⟩
  all_goals first
    | (rw [World.cell?_setCell_same (h := h3)])
    | exact (World.cell?_setCell_other _ _ _ _ (by simp)).trans (by assumption)
end
theorem C5.only {g h : Nat} {c0 c1 c2 c3 c4 : Value} {w w' : World} (f : C5 h c0 c1 c2 c3 c4 w) (o : Only g w w') (hh : h ≠ g) : C5 h c0 c1 c2 c3 c4 w' := by
  have hb := o.block h f.lt hh
  have e1 : ∀ i, w'.cell? ⟨h, i, none⟩ = w.cell? ⟨h, i, none⟩ := fun i => World.cell?_of_block (w := w) hb
  have e2 : ∀ i, w'.frozen? ⟨h, i, none⟩ = w.frozen? ⟨h, i, none⟩ := fun i => World.frozen?_of_block (w := w) hb
  obtain ⟨⟨h0, h1, h2, h3, h4⟩, ⟨f0, f1, f2, f3, f4⟩⟩ := f
  exact ⟨⟨(e1 _).trans h0, (e1 _).trans h1, (e1 _).trans h2, (e1 _).trans h3, (e1 _).trans h4⟩, ⟨(e2 _).trans f0, (e2 _).trans f1, (e2 _).trans f2, (e2 _).trans f3, (e2 _).trans f4⟩⟩
end
section
open Go.RowKit
theorem and3_cases (k : Int) : bits .and .i64 k 3 = 0 ∨ bits .and .i64 k 3 = 1 ∨ bits .and .i64 k 3 = 2 ∨ bits .and .i64 k 3 = 3 := by
  have e : bits .and .i64 k 3 = (((BitVec.ofInt 64 k).toNat % 4 : Nat) : Int) := by
    show IntKind.i64.wrap ((BitVec.ofInt 64 k &&& BitVec.ofInt 64 ((3 : Nat) : Int)).toNat : Int) = _
    rw [BitVec.toNat_and, ofInt_u64 3 (by omega)]
    have h := Nat.and_two_pow_sub_one_eq_mod (BitVec.ofInt 64 k).toNat 2
    rw [show (3 : Nat) = 2 ^ 2 - 1 from rfl, h]
    exact Lib.wrap_i64_small _ (by omega)
  have := Nat.mod_lt (BitVec.ofInt 64 k).toNat (show 0 < 4 by omega)
  omega
end
end Go.Proofs.YtiogngfemelifaaDoor.Asc
