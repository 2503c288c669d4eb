/- A control in memory: a struct of eleven cells in a block of its own. (Made by tools/genctl1.py.) -/
import Derived.Test.YtlcojfkkeommoaaCtlSpec
import Derived.Test.YtlcojfkkeommoaaOnly
import Derived.Laws.ResultCell
set_option linter.unusedVariables false
set_option linter.unusedSimpArgs false
set_option maxRecDepth 100000
namespace Go.Proofs.Ytlcojfkkeommoaa.Asc
open Go.RowKit

def ctA (c : CT) : Array Value := #[.bool c.ns, .bool c.nc, .bool c.mr, .bool c.pr, .bool c.pv, .bool c.pb, .bool c.oc, .int .i64 c.ma, .int .i64 c.sm, .int .i64 c.mf, .int .i64 c.ms]
def ctV (c : CT) : Value := .agg (ctA c)
/-- a control lies at the block's start, and may be written -/
def Ct (g : Nat) (c : CT) (w : World) : Prop :=
  (w.cell? ⟨g, 0, none⟩ = some (.bool c.ns) ∧ w.cell? ⟨g, 1, none⟩ = some (.bool c.nc) ∧ w.cell? ⟨g, 2, none⟩ = some (.bool c.mr) ∧ w.cell? ⟨g, 3, none⟩ = some (.bool c.pr) ∧ w.cell? ⟨g, 4, none⟩ = some (.bool c.pv) ∧ w.cell? ⟨g, 5, none⟩ = some (.bool c.pb) ∧ w.cell? ⟨g, 6, none⟩ = some (.bool c.oc) ∧ w.cell? ⟨g, 7, none⟩ = some (.int .i64 c.ma) ∧ w.cell? ⟨g, 8, none⟩ = some (.int .i64 c.sm) ∧ w.cell? ⟨g, 9, none⟩ = some (.int .i64 c.mf) ∧ w.cell? ⟨g, 10, none⟩ = some (.int .i64 c.ms)) ∧
  (w.frozen? ⟨g, 0, none⟩ = false ∧ w.frozen? ⟨g, 1, none⟩ = false ∧ w.frozen? ⟨g, 2, none⟩ = false ∧ w.frozen? ⟨g, 3, none⟩ = false ∧ w.frozen? ⟨g, 4, none⟩ = false ∧ w.frozen? ⟨g, 5, none⟩ = false ∧ w.frozen? ⟨g, 6, none⟩ = false ∧ w.frozen? ⟨g, 7, none⟩ = false ∧ w.frozen? ⟨g, 8, none⟩ = false ∧ w.frozen? ⟨g, 9, none⟩ = false ∧ w.frozen? ⟨g, 10, none⟩ = false)
section
variable {g B : Nat} {c : CT} {w w' : World}
theorem Ct.new (c : CT) (w : World) (t : TypeId) : Ct w.heap.size c (w.alloc (.cells (ctA c) t)) := by
  unfold ctA
  refine ⟨⟨?_, ?_, ?_, ?_, ?_, ?_, ?_, ?_, ?_, ?_, ?_⟩, ⟨?_, ?_, ?_, ?_, ?_, ?_, ?_, ?_, ?_, ?_, ?_⟩⟩
  all_goals first
    | (rw [World.cell?_alloc_mark]; rfl)
    | exact World.frozen?_alloc_at _ _ _ _ rfl
theorem Ct.below (f : Ct g c w) (hb : Below B w w') (hg : g < B) : Ct g c w' := by
  obtain ⟨⟨h0, h1, h2, h3, h4, h5, h6, h7, h8, h9, h10⟩, ⟨f0, f1, f2, f3, f4, f5, f6, f7, f8, f9, f10⟩⟩ := f
  exact ⟨⟨(hb.cell hg).trans h0, (hb.cell hg).trans h1, (hb.cell hg).trans h2, (hb.cell hg).trans h3, (hb.cell hg).trans h4, (hb.cell hg).trans h5, (hb.cell hg).trans h6, (hb.cell hg).trans h7, (hb.cell hg).trans h8, (hb.cell hg).trans h9, (hb.cell hg).trans h10⟩, ⟨(hb.frozen hg).trans f0, (hb.frozen hg).trans f1, (hb.frozen hg).trans f2, (hb.frozen hg).trans f3, (hb.frozen hg).trans f4, (hb.frozen hg).trans f5, (hb.frozen hg).trans f6, (hb.frozen hg).trans f7, (hb.frozen hg).trans f8, (hb.frozen hg).trans f9, (hb.frozen hg).trans f10⟩⟩
theorem Ct.lt (f : Ct g c w) : g < w.heap.size := cell_lt (p := ⟨g, 0, none⟩) f.1.1
theorem Ct.next (f : Ct g c w) (hb : Below w.heap.size w w') : Ct g c w' := f.below hb f.lt
theorem Ct.drewN (f : Ct g c w) (n : Nat) : Ct g c (w.drewN n) := f.next (below_drewN _ _)
theorem Ct.only {k : Nat} (f : Ct g c w) (hb : Only k w w') (hk : g ≠ k) : Ct g c w' := by
  have e : w'.heap[g]? = w.heap[g]? := hb.block g f.lt hk
  obtain ⟨⟨h0, h1, h2, h3, h4, h5, h6, h7, h8, h9, h10⟩, ⟨f0, f1, f2, f3, f4, f5, f6, f7, f8, f9, f10⟩⟩ := f
  have e1 : ∀ i, w'.cell? ⟨g, i, none⟩ = w.cell? ⟨g, i, none⟩ := fun i => by simp only [World.cell?, e]
  have e2 : ∀ i, w'.frozen? ⟨g, i, none⟩ = w.frozen? ⟨g, i, none⟩ := fun i => by simp only [World.frozen?, e]
  exact ⟨⟨(e1 _).trans h0, (e1 _).trans h1, (e1 _).trans h2, (e1 _).trans h3, (e1 _).trans h4, (e1 _).trans h5, (e1 _).trans h6, (e1 _).trans h7, (e1 _).trans h8, (e1 _).trans h9, (e1 _).trans h10⟩, ⟨(e2 _).trans f0, (e2 _).trans f1, (e2 _).trans f2, (e2 _).trans f3, (e2 _).trans f4, (e2 _).trans f5, (e2 _).trans f6, (e2 _).trans f7, (e2 _).trans f8, (e2 _).trans f9, (e2 _).trans f10⟩⟩
theorem Ct.set_ns (f : Ct g c w) (v : Bool) : Ct g { c with ns := v } (w.setCell ⟨g, 0, none⟩ (.bool v)) := by
  obtain ⟨⟨h0, h1, h2, h3, h4, h5, h6, h7, h8, h9, h10⟩, f0⟩ := f
  refine ⟨⟨?_, ?_, ?_, ?_, ?_, ?_, ?_, ?_, ?_, ?_, ?_⟩, by simpa only [World.frozen?_setCell] using f0⟩
  all_goals first
    | (rw [World.cell?_setCell_same (h := h0)])
    | exact (World.cell?_setCell_other _ _ _ _ (by simp)).trans (by assumption)
theorem Ct.set_nc (f : Ct g c w) (v : Bool) : Ct g { c with nc := v } (w.setCell ⟨g, 1, none⟩ (.bool v)) := by
  obtain ⟨⟨h0, h1, h2, h3, h4, h5, h6, h7, h8, h9, h10⟩, f0⟩ := f
  refine ⟨⟨?_, ?_, ?_, ?_, ?_, ?_, ?_, ?_, ?_, ?_, ?_⟩, by simpa only [World.frozen?_setCell] using f0⟩
  all_goals first
    | (rw [World.cell?_setCell_same (h := h1)])
    | exact (World.cell?_setCell_other _ _ _ _ (by simp)).trans (by assumption)
theorem Ct.set_mr (f : Ct g c w) (v : Bool) : Ct g { c with mr := v } (w.setCell ⟨g, 2, none⟩ (.bool v)) := by
  obtain ⟨⟨h0, h1, h2, h3, h4, h5, h6, h7, h8, h9, h10⟩, f0⟩ := f
  refine ⟨⟨?_, ?_, ?_, ?_, ?_, ?_, ?_, ?_, ?_, ?_, ?_⟩, by simpa only [World.frozen?_setCell] using f0⟩
  all_goals first
    | (rw [World.cell?_setCell_same (h := h2)])
    | exact (World.cell?_setCell_other _ _ _ _ (by simp)).trans (by assumption)
theorem Ct.set_pr (f : Ct g c w) (v : Bool) : Ct g { c with pr := v } (w.setCell ⟨g, 3, none⟩ (.bool v)) := by
  obtain ⟨⟨h0, h1, h2, h3, h4, h5, h6, h7, h8, h9, h10⟩, f0⟩ := f
  refine ⟨⟨?_, ?_, ?_, ?_, ?_, ?_, ?_, ?_, ?_, ?_, ?_⟩, by simpa only [World.frozen?_setCell] using f0⟩
  all_goals first
    | (rw [World.cell?_setCell_same (h := h3)])
    | exact (World.cell?_setCell_other _ _ _ _ (by simp)).trans (by assumption)
theorem Ct.set_pv (f : Ct g c w) (v : Bool) : Ct g { c with pv := v } (w.setCell ⟨g, 4, none⟩ (.bool v)) := by
  obtain ⟨⟨h0, h1, h2, h3, h4, h5, h6, h7, h8, h9, h10⟩, f0⟩ := f
  refine ⟨⟨?_, ?_, ?_, ?_, ?_, ?_, ?_, ?_, ?_, ?_, ?_⟩, by simpa only [World.frozen?_setCell] using f0⟩
  all_goals first
    | (rw [World.cell?_setCell_same (h := h4)])
    | exact (World.cell?_setCell_other _ _ _ _ (by simp)).trans (by assumption)
theorem Ct.set_pb (f : Ct g c w) (v : Bool) : Ct g { c with pb := v } (w.setCell ⟨g, 5, none⟩ (.bool v)) := by
  obtain ⟨⟨h0, h1, h2, h3, h4, h5, h6, h7, h8, h9, h10⟩, f0⟩ := f
  refine ⟨⟨?_, ?_, ?_, ?_, ?_, ?_, ?_, ?_, ?_, ?_, ?_⟩, by simpa only [World.frozen?_setCell] using f0⟩
  all_goals first
    | (rw [World.cell?_setCell_same (h := h5)])
    | exact (World.cell?_setCell_other _ _ _ _ (by simp)).trans (by assumption)
theorem Ct.set_oc (f : Ct g c w) (v : Bool) : Ct g { c with oc := v } (w.setCell ⟨g, 6, none⟩ (.bool v)) := by
  obtain ⟨⟨h0, h1, h2, h3, h4, h5, h6, h7, h8, h9, h10⟩, f0⟩ := f
  refine ⟨⟨?_, ?_, ?_, ?_, ?_, ?_, ?_, ?_, ?_, ?_, ?_⟩, by simpa only [World.frozen?_setCell] using f0⟩
  all_goals first
    | (rw [World.cell?_setCell_same (h := h6)])
    | exact (World.cell?_setCell_other _ _ _ _ (by simp)).trans (by assumption)
theorem Ct.set_ma (f : Ct g c w) (v : Int) : Ct g { c with ma := v } (w.setCell ⟨g, 7, none⟩ (.int .i64 v)) := by
  obtain ⟨⟨h0, h1, h2, h3, h4, h5, h6, h7, h8, h9, h10⟩, f0⟩ := f
  refine ⟨⟨?_, ?_, ?_, ?_, ?_, ?_, ?_, ?_, ?_, ?_, ?_⟩, by simpa only [World.frozen?_setCell] using f0⟩
  all_goals first
    | (rw [World.cell?_setCell_same (h := h7)])
    | exact (World.cell?_setCell_other _ _ _ _ (by simp)).trans (by assumption)
theorem Ct.set_sm (f : Ct g c w) (v : Int) : Ct g { c with sm := v } (w.setCell ⟨g, 8, none⟩ (.int .i64 v)) := by
  obtain ⟨⟨h0, h1, h2, h3, h4, h5, h6, h7, h8, h9, h10⟩, f0⟩ := f
  refine ⟨⟨?_, ?_, ?_, ?_, ?_, ?_, ?_, ?_, ?_, ?_, ?_⟩, by simpa only [World.frozen?_setCell] using f0⟩
  all_goals first
    | (rw [World.cell?_setCell_same (h := h8)])
    | exact (World.cell?_setCell_other _ _ _ _ (by simp)).trans (by assumption)
theorem Ct.set_mf (f : Ct g c w) (v : Int) : Ct g { c with mf := v } (w.setCell ⟨g, 9, none⟩ (.int .i64 v)) := by
  obtain ⟨⟨h0, h1, h2, h3, h4, h5, h6, h7, h8, h9, h10⟩, f0⟩ := f
  refine ⟨⟨?_, ?_, ?_, ?_, ?_, ?_, ?_, ?_, ?_, ?_, ?_⟩, by simpa only [World.frozen?_setCell] using f0⟩
  all_goals first
    | (rw [World.cell?_setCell_same (h := h9)])
    | exact (World.cell?_setCell_other _ _ _ _ (by simp)).trans (by assumption)
theorem Ct.set_ms (f : Ct g c w) (v : Int) : Ct g { c with ms := v } (w.setCell ⟨g, 10, none⟩ (.int .i64 v)) := by
  obtain ⟨⟨h0, h1, h2, h3, h4, h5, h6, h7, h8, h9, h10⟩, f0⟩ := f
  refine ⟨⟨?_, ?_, ?_, ?_, ?_, ?_, ?_, ?_, ?_, ?_, ?_⟩, by simpa only [World.frozen?_setCell] using f0⟩
  all_goals first
    | (rw [World.cell?_setCell_same (h := h10)])
    | exact (World.cell?_setCell_other _ _ _ _ (by simp)).trans (by assumption)
end
/-- all of it stored -/
def ctPut (g : Nat) (c : CT) (w : World) : World := ((((((((((w.setCell ⟨g, 0, none⟩ (.bool c.ns)).setCell ⟨g, 1, none⟩ (.bool c.nc)).setCell ⟨g, 2, none⟩ (.bool c.mr)).setCell ⟨g, 3, none⟩ (.bool c.pr)).setCell ⟨g, 4, none⟩ (.bool c.pv)).setCell ⟨g, 5, none⟩ (.bool c.pb)).setCell ⟨g, 6, none⟩ (.bool c.oc)).setCell ⟨g, 7, none⟩ (.int .i64 c.ma)).setCell ⟨g, 8, none⟩ (.int .i64 c.sm)).setCell ⟨g, 9, none⟩ (.int .i64 c.mf)).setCell ⟨g, 10, none⟩ (.int .i64 c.ms)
theorem ct_put_below {w w1 : World} {g B : Nat} (h : Below B w w1) (hg : B ≤ g) (c : CT) : Below B w (ctPut g c w1) :=
  ((((((((((h.setCell (p := ⟨g, 0, none⟩) hg (.bool c.ns)).setCell (p := ⟨g, 1, none⟩) hg (.bool c.nc)).setCell (p := ⟨g, 2, none⟩) hg (.bool c.mr)).setCell (p := ⟨g, 3, none⟩) hg (.bool c.pr)).setCell (p := ⟨g, 4, none⟩) hg (.bool c.pv)).setCell (p := ⟨g, 5, none⟩) hg (.bool c.pb)).setCell (p := ⟨g, 6, none⟩) hg (.bool c.oc)).setCell (p := ⟨g, 7, none⟩) hg (.int .i64 c.ma)).setCell (p := ⟨g, 8, none⟩) hg (.int .i64 c.sm)).setCell (p := ⟨g, 9, none⟩) hg (.int .i64 c.mf)).setCell (p := ⟨g, 10, none⟩) hg (.int .i64 c.ms)
theorem ct_put_only (g : Nat) (c : CT) (w : World) : Only g w (ctPut g c w) :=
  (((((((((((Only.refl g w).setAt 0 (.bool c.ns)).setAt 1 (.bool c.nc)).setAt 2 (.bool c.mr)).setAt 3 (.bool c.pr)).setAt 4 (.bool c.pv)).setAt 5 (.bool c.pb)).setAt 6 (.bool c.oc)).setAt 7 (.int .i64 c.ma)).setAt 8 (.int .i64 c.sm)).setAt 9 (.int .i64 c.mf)).setAt 10 (.int .i64 c.ms)
theorem Ct.put {g : Nat} {c0 : CT} {w : World} (f : Ct g c0 w) (c : CT) : Ct g c (ctPut g c w) := by
  have h := ((((((((((f.set_ns c.ns).set_nc c.nc).set_mr c.mr).set_pr c.pr).set_pv c.pv).set_pb c.pb).set_oc c.oc).set_ma c.ma).set_sm c.sm).set_mf c.mf).set_ms c.ms
  exact h
def ct0 : CT := ⟨false, false, false, false, false, false, false, 0, 0, 0, 0⟩
theorem results_cell22 {fn : Func} {p : Tmp} {ty : TypeId} (h : fn.results = #[.cell p ty]) (tmps : Array Value) (P : Program) (w : World) :
    (results fn tmps).run P w = ((asAddr (tmps.getD p undef)).run P w).andThen fun a w₁ => (loadVar ty a).run P w₁ := by
  simp only [results, h]
  simp [Sem.run_bind, Result.andThen]

end Go.Proofs.Ytlcojfkkeommoaa.Asc
