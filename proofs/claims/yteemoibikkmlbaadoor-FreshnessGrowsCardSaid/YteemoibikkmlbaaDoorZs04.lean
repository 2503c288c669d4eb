/- Merged texts: CtlMem PreAny AscNum AscOwn AscUn AscUnq AscLow. -/
import Derived.Test.YteemoibikkmlbaaDoorZs01
import Derived.Test.YteemoibikkmlbaaDoorZs02
import Derived.Test.YteemoibikkmlbaaDoorZs03
import Derived.Laws.AppendOwnNone
import Derived.Laws.ResultCell
import Derived.Lib.Hide
import Derived.LoopTactic
set_option linter.unusedVariables false
set_option linter.unusedSimpArgs false
set_option maxRecDepth 100000
namespace Go.Proofs.YteemoibikkmlbaaDoor.Asc
section
open Go.RowKit
def ctA (c : CT) : Array Value := #[.bool c.ns, .bool c.nc, .bool c.mr, .bool c.pr, .bool c.pv, .bool c.pb, .bool c.oc, .int .i64 c.ma, .int .i64 c.sm, .int .i64 c.mf, .int .i64 c.ms]
def ctV (c : CT) : Value := .agg (ctA c)
/-- a control lies at the block's start, and may be written -/
def Ct (g : Nat) (c : CT) (w : World) : Prop :=
  (w.cell? ⟨g, 0, none⟩ = some (.bool c.ns) ∧ w.cell? ⟨g, 1, none⟩ = some (.bool c.nc) ∧ w.cell? ⟨g, 2, none⟩ = some (.bool c.mr) ∧ w.cell? ⟨g, 3, none⟩ = some (.bool c.pr) ∧ w.cell? ⟨g, 4, none⟩ = some (.bool c.pv) ∧ w.cell? ⟨g, 5, none⟩ = some (.bool c.pb) ∧ w.cell? ⟨g, 6, none⟩ = some (.bool c.oc) ∧ w.cell? ⟨g, 7, none⟩ = some (.int .i64 c.ma) ∧ w.cell? ⟨g, 8, none⟩ = some (.int .i64 c.sm) ∧ w.cell? ⟨g, 9, none⟩ = some (.int .i64 c.mf) ∧ w.cell? ⟨g, 10, none⟩ = some (.int .i64 c.ms)) ∧
  (w.frozen? ⟨g, 0, none⟩ = false ∧ w.frozen? ⟨g, 1, none⟩ = false ∧ w.frozen? ⟨g, 2, none⟩ = false ∧ w.frozen? ⟨g, 3, none⟩ = false ∧ w.frozen? ⟨g, 4, none⟩ = false ∧ w.frozen? ⟨g, 5, none⟩ = false ∧ w.frozen? ⟨g, 6, none⟩ = false ∧ w.frozen? ⟨g, 7, none⟩ = false ∧ w.frozen? ⟨g, 8, none⟩ = false ∧ w.frozen? ⟨g, 9, none⟩ = false ∧ w.frozen? ⟨g, 10, none⟩ = false)
section
variable {g B : Nat} {c : CT} {w w' : World}
theorem Ct.new (c : CT) (w : World) (t : TypeId) : Ct w.heap.size c (w.alloc (.cells (ctA c) t)) := by
  unfold ctA
  refine ⟨⟨?_, ?_, ?_, ?_, ?_, ?_, ?_, ?_, ?_, ?_, ?_⟩, ⟨?_, ?_, ?_, ?_, ?_, ?_, ?_, ?_, ?_, ?_, ?_⟩⟩
  all_goals first
    | (rw [World.cell?_alloc_mark]; rfl)
    | exact World.frozen?_alloc_at _ _ _ _ rfl
theorem Ct.below (f : Ct g c w) (hb : Below B w w') (hg : g < B) : Ct g c w' := by
  obtain ⟨⟨h0, h1, h2, h3, h4, h5, h6, h7, h8, h9, h10⟩, ⟨f0, f1, f2, f3, f4, f5, f6, f7, f8, f9, f10⟩⟩ := f
  exact ⟨⟨(hb.cell hg).trans h0, (hb.cell hg).trans h1, (hb.cell hg).trans h2, (hb.cell hg).trans h3, (hb.cell hg).trans h4, (hb.cell hg).trans h5, (hb.cell hg).trans h6, (hb.cell hg).trans h7, (hb.cell hg).trans h8, (hb.cell hg).trans h9, (hb.cell hg).trans h10⟩, ⟨(hb.frozen hg).trans f0, (hb.frozen hg).trans f1, (hb.frozen hg).trans f2, (hb.frozen hg).trans f3, (hb.frozen hg).trans f4, (hb.frozen hg).trans f5, (hb.frozen hg).trans f6, (hb.frozen hg).trans f7, (hb.frozen hg).trans f8, (hb.frozen hg).trans f9, (hb.frozen hg).trans f10⟩⟩
theorem Ct.lt (f : Ct g c w) : g < w.heap.size := cell_lt (p := ⟨g, 0, none⟩) f.1.1
theorem Ct.next (f : Ct g c w) (hb : Below w.heap.size w w') : Ct g c w' := f.below hb f.lt
theorem Ct.drewN (f : Ct g c w) (n : Nat) : Ct g c (w.drewN n) := f.next (below_drewN _ _)
theorem Ct.only {k : Nat} (f : Ct g c w) (hb : Only k w w') (hk : g ≠ k) : Ct g c w' := by
  have e : w'.heap[g]? = w.heap[g]? := hb.block g f.lt hk
  obtain ⟨⟨h0, h1, h2, h3, h4, h5, h6, h7, h8, h9, h10⟩, ⟨f0, f1, f2, f3, f4, f5, f6, f7, f8, f9, f10⟩⟩ := f
  have e1 : ∀ i, w'.cell? ⟨g, i, none⟩ = w.cell? ⟨g, i, none⟩ := fun i => by simp only [World.cell?, e]
  have e2 : ∀ i, w'.frozen? ⟨g, i, none⟩ = w.frozen? ⟨g, i, none⟩ := fun i => by simp only [World.frozen?, e]
  exact ⟨⟨(e1 _).trans h0, (e1 _).trans h1, (e1 _).trans h2, (e1 _).trans h3, (e1 _).trans h4, (e1 _).trans h5, (e1 _).trans h6, (e1 _).trans h7, (e1 _).trans h8, (e1 _).trans h9, (e1 _).trans h10⟩, ⟨(e2 _).trans f0, (e2 _).trans f1, (e2 _).trans f2, (e2 _).trans f3, (e2 _).trans f4, (e2 _).trans f5, (e2 _).trans f6, (e2 _).trans f7, (e2 _).trans f8, (e2 _).trans f9, (e2 _).trans f10⟩⟩
theorem Ct.set_ns (f : Ct g c w) (v : Bool) : Ct g { c with ns := v } (w.setCell ⟨g, 0, none⟩ (.bool v)) := by
  obtain ⟨⟨h0, h1, h2, h3, h4, h5, h6, h7, h8, h9, h10⟩, f0⟩ := f
  refine ⟨⟨?_, ?_, ?_, ?_, ?_, ?_, ?_, ?_, ?_, ?_, ?_⟩, by simpa only [World.frozen?_setCell] using f0⟩
  all_goals first
    | (rw [World.cell?_setCell_same (h := h0)])
    | exact (World.cell?_setCell_other _ _ _ _ (by simp)).trans (by assumption)
theorem Ct.set_nc (f : Ct g c w) (v : Bool) : Ct g { c with nc := v } (w.setCell ⟨g, 1, none⟩ (.bool v)) := by
  obtain ⟨⟨h0, h1, h2, h3, h4, h5, h6, h7, h8, h9, h10⟩, f0⟩ := f
  refine ⟨⟨?_, ?_, ?_, ?_, ?_, ?_, ?_, ?_, ?_, ?_, ?_⟩, by simpa only [World.frozen?_setCell] using f0⟩
  all_goals first
    | (rw [World.cell?_setCell_same (h := h1)])
    | exact (World.cell?_setCell_other _ _ _ _ (by simp)).trans (by assumption)
theorem Ct.set_mr (f : Ct g c w) (v : Bool) : Ct g { c with mr := v } (w.setCell ⟨g, 2, none⟩ (.bool v)) := by
  obtain ⟨⟨h0, h1, h2, h3, h4, h5, h6, h7, h8, h9, h10⟩, f0⟩ := f
  refine ⟨⟨?_, ?_, ?_, ?_, ?_, ?_, ?_, ?_, ?_, ?_, ?_⟩, by simpa only [World.frozen?_setCell] using f0⟩
  all_goals first
    | (rw [World.cell?_setCell_same (h := h2)])
    | exact (World.cell?_setCell_other _ _ _ _ (by simp)).trans (by assumption)
theorem Ct.set_pr (f : Ct g c w) (v : Bool) : Ct g { c with pr := v } (w.setCell ⟨g, 3, none⟩ (.bool v)) := by
  obtain ⟨⟨h0, h1, h2, h3, h4, h5, h6, h7, h8, h9, h10⟩, f0⟩ := f
  refine ⟨⟨?_, ?_, ?_, ?_, ?_, ?_, ?_, ?_, ?_, ?_, ?_⟩, by simpa only [World.frozen?_setCell] using f0⟩
  all_goals first
    | (rw [World.cell?_setCell_same (h := h3)])
    | exact (World.cell?_setCell_other _ _ _ _ (by simp)).trans (by assumption)
theorem Ct.set_pv (f : Ct g c w) (v : Bool) : Ct g { c with pv := v } (w.setCell ⟨g, 4, none⟩ (.bool v)) := by
  obtain ⟨⟨h0, h1, h2, h3, h4, h5, h6, h7, h8, h9, h10⟩, f0⟩ := f
  refine ⟨⟨?_, ?_, ?_, ?_, ?_, ?_, ?_, ?_, ?_, ?_, ?_⟩, by simpa only [World.frozen?_setCell] using f0⟩
  all_goals first
    | (rw [World.cell?_setCell_same (h := h4)])
    | exact (World.cell?_setCell_other _ _ _ _ (by simp)).trans (by assumption)
theorem Ct.set_pb (f : Ct g c w) (v : Bool) : Ct g { c with pb := v } (w.setCell ⟨g, 5, none⟩ (.bool v)) := by
  obtain ⟨⟨h0, h1, h2, h3, h4, h5, h6, h7, h8, h9, h10⟩, f0⟩ := f
  refine ⟨⟨?_, ?_, ?_, ?_, ?_, ?_, ?_, ?_, ?_, ?_, ?_⟩, by simpa only [World.frozen?_setCell] using f0⟩
  all_goals first
    | (rw [World.cell?_setCell_same (h := h5)])
    | exact (World.cell?_setCell_other _ _ _ _ (by simp)).trans (by assumption)
theorem Ct.set_oc (f : Ct g c w) (v : Bool) : Ct g { c with oc := v } (w.setCell ⟨g, 6, none⟩ (.bool v)) := by
  obtain ⟨⟨h0, h1, h2, h3, h4, h5, h6, h7, h8, h9, h10⟩, f0⟩ := f
  refine ⟨⟨?_, ?_, ?_, ?_, ?_, ?_, ?_, ?_, ?_, ?_, ?_⟩, by simpa only [World.frozen?_setCell] using f0⟩
  all_goals first
    | (rw [World.cell?_setCell_same (h := h6)])
    | exact (World.cell?_setCell_other _ _ _ _ (by simp)).trans (by assumption)
theorem Ct.set_ma (f : Ct g c w) (v : Int) : Ct g { c with ma := v } (w.setCell ⟨g, 7, none⟩ (.int .i64 v)) := by
  obtain ⟨⟨h0, h1, h2, h3, h4, h5, h6, h7, h8, h9, h10⟩, f0⟩ := f
  refine ⟨⟨?_, ?_, ?_, ?_, ?_, ?_, ?_, ?_, ?_, ?_, ?_⟩, by simpa only [World.frozen?_setCell] using f0⟩
  all_goals first
    | (rw [World.cell?_setCell_same (h := h7)])
    | exact (World.cell?_setCell_other _ _ _ _ (by simp)).trans (by assumption)
theorem Ct.set_sm (f : Ct g c w) (v : Int) : Ct g { c with sm := v } (w.setCell ⟨g, 8, none⟩ (.int .i64 v)) := by
  obtain ⟨⟨h0, h1, h2, h3, h4, h5, h6, h7, h8, h9, h10⟩, f0⟩ := f
  refine ⟨⟨?_, ?_, ?_, ?_, ?_, ?_, ?_, ?_, ?_, ?_, ?_⟩, by simpa only [World.frozen?_setCell] using f0⟩
  all_goals first
    | (rw [World.cell?_setCell_same (h := h8)])
    | exact (World.cell?_setCell_other _ _ _ _ (by simp)).trans (by assumption)
theorem Ct.set_mf (f : Ct g c w) (v : Int) : Ct g { c with mf := v } (w.setCell ⟨g, 9, none⟩ (.int .i64 v)) := by
  obtain ⟨⟨h0, h1, h2, h3, h4, h5, h6, h7, h8, h9, h10⟩, f0⟩ := f
  refine ⟨⟨?_, ?_, ?_, ?_, ?_, ?_, ?_, ?_, ?_, ?_, ?_⟩, by simpa only [World.frozen?_setCell] using f0⟩
  all_goals first
    | (rw [World.cell?_setCell_same (h := h9)])
    | exact (World.cell?_setCell_other _ _ _ _ (by simp)).trans (by assumption)
theorem Ct.set_ms (f : Ct g c w) (v : Int) : Ct g { c with ms := v } (w.setCell ⟨g, 10, none⟩ (.int .i64 v)) := by
  obtain ⟨⟨h0, h1, h2, h3, h4, h5, h6, h7, h8, h9, h10⟩, f0⟩ := f
  refine ⟨⟨?_, ?_, ?_, ?_, ?_, ?_, ?_, ?_, ?_, ?_, ?_⟩, by simpa only [World.frozen?_setCell] using f0⟩
  all_goals first
    | (rw [World.cell?_setCell_same (h := h10)])
    | exact (World.cell?_setCell_other _ _ _ _ (by simp)).trans (by assumption)
end
/-- all of it stored -/
def ctPut (g : Nat) (c : CT) (w : World) : World := ((((((((((w.setCell ⟨g, 0, none⟩ (.bool c.ns)).setCell ⟨g, 1, none⟩ (.bool c.nc)).setCell ⟨g, 2, none⟩ (.bool c.mr)).setCell ⟨g, 3, none⟩ (.bool c.pr)).setCell ⟨g, 4, none⟩ (.bool c.pv)).setCell ⟨g, 5, none⟩ (.bool c.pb)).setCell ⟨g, 6, none⟩ (.bool c.oc)).setCell ⟨g, 7, none⟩ (.int .i64 c.ma)).setCell ⟨g, 8, none⟩ (.int .i64 c.sm)).setCell ⟨g, 9, none⟩ (.int .i64 c.mf)).setCell ⟨g, 10, none⟩ (.int .i64 c.ms)
theorem ct_put_below {w w1 : World} {g B : Nat} (h : Below B w w1) (hg : B ≤ g) (c : CT) : Below B w (ctPut g c w1) :=
  ((((((((((h.setCell (p := ⟨g, 0, none⟩) hg (.bool c.ns)).setCell (p := ⟨g, 1, none⟩) hg (.bool c.nc)).setCell (p := ⟨g, 2, none⟩) hg (.bool c.mr)).setCell (p := ⟨g, 3, none⟩) hg (.bool c.pr)).setCell (p := ⟨g, 4, none⟩) hg (.bool c.pv)).setCell (p := ⟨g, 5, none⟩) hg (.bool c.pb)).setCell (p := ⟨g, 6, none⟩) hg (.bool c.oc)).setCell (p := ⟨g, 7, none⟩) hg (.int .i64 c.ma)).setCell (p := ⟨g, 8, none⟩) hg (.int .i64 c.sm)).setCell (p := ⟨g, 9, none⟩) hg (.int .i64 c.mf)).setCell (p := ⟨g, 10, none⟩) hg (.int .i64 c.ms)
theorem Ct.put {g : Nat} {c0 : CT} {w : World} (f : Ct g c0 w) (c : CT) : Ct g c (ctPut g c w) := by
  have h := ((((((((((f.set_ns c.ns).set_nc c.nc).set_mr c.mr).set_pr c.pr).set_pv c.pv).set_pb c.pb).set_oc c.oc).set_ma c.ma).set_sm c.sm).set_mf c.mf).set_ms c.ms
  exact h
def ct0 : CT := ⟨false, false, false, false, false, false, false, 0, 0, 0, 0⟩
theorem results_cell22 {fn : Func} {p : Tmp} {ty : TypeId} (h : fn.results = #[.cell p ty]) (tmps : Array Value) (P : Program) (w : World) :
    (results fn tmps).run P w = ((asAddr (tmps.getD p undef)).run P w).andThen fun a w₁ => (loadVar ty a).run P w₁ := by
  simp only [results, h]
  simp [Sem.run_bind, Result.andThen]
end
section
open Go.RowKit
/-- does the text begin so? -/
def pre21 (l p : List UInt8) : Bool := l.take p.length == p
theorem hasPre21_is {s p : ByteArray} {b : Bool} {w : World} (hs : s.size ≤ 4000000) (hp : p.size ≤ 65536) (hb : Box (pre21 s.data.toList p.data.toList = b)) :
    Calls Tryd.prog 96 #[.string s, .string p] w fun e w' => e = .returned (.bool b) ∧ w = w' := by
  have hz : s.data.toList.length = s.size := by simp
  have hz2 : p.data.toList.length = p.size := by simp
  by_cases h : p.size ≤ s.size
  · have HE : ((s.extract 0 p.size).toList == p.toList) = b := by
      rw [← hb.out]; unfold pre21
      rw [toList_data, toList_data, ext_bs, List.drop_zero, hz2]; rfl
    have hi : (p.size : Int) ≤ (s.size : Int) := by omega
    clear hz hz2
    go_enter Tryd.func96, Tryd.ntmps96
    go_wp2
    go_ret
    exact ⟨rfl, rfl⟩
  · have HE : Box (b = false) := box (by
      rw [← hb.out]; unfold pre21
      rw [beq_eq_false_iff_ne]
      intro e
      have := congrArg List.length e
      rw [List.length_take] at this
      omega)
    have hi : (s.size : Int) < (p.size : Int) := by omega
    clear hz hz2
    go_enter Tryd.func96, Tryd.ntmps96
    go_wp2
    go_ret
    exact ⟨ret_bool HE.out.symm, rfl⟩
theorem pre21_le {s p : ByteArray} (h : pre21 s.data.toList p.data.toList = true) : p.size ≤ s.size := by
  unfold pre21 at h
  rw [beq_iff_eq] at h
  have := congrArg List.length h
  rw [List.length_take] at this
  simp at this; omega
theorem scutPre21_no {s p : ByteArray} {w : World} (hs : s.size ≤ 4000000) (hp : p.size ≤ 65536) (h : Box (pre21 s.data.toList p.data.toList = false)) :
    Calls Tryd.prog 93 #[.string s, .string p] w fun e w' => e = .returned (.tuple #[.string s, .bool false]) ∧ w = w' := by
  go_enter Tryd.func93, Tryd.ntmps93
  go_wp2_with fail
  refine (hasPre21_is hs hp h).mono ?_; rintro e w1 ⟨rfl, rfl⟩
  go_wp2
  go_ret2
  exact ⟨rfl, rfl⟩
theorem scutPre21_yes {s p x : ByteArray} {w : World} (hs : s.size ≤ 4000000) (hp : p.size ≤ 65536) (h : Box (pre21 s.data.toList p.data.toList = true)) (hx : Box (s.extract p.size s.size = x)) :
    Calls Tryd.prog 93 #[.string s, .string p] w fun e w' => e = .returned (.tuple #[.string x, .bool true]) ∧ w = w' := by
  have hle := pre21_le h.out
  have hli : (p.size : Int) ≤ (s.size : Int) := by omega
  go_enter Tryd.func93, Tryd.ntmps93
  go_wp2_with fail
  refine (hasPre21_is hs hp h).mono ?_; rintro e w1 ⟨rfl, rfl⟩
  go_wp2
  go_ret2
  exact ⟨by rw [← hx.out]; rfl, rfl⟩
theorem cutPre21_no {s p : ByteArray} {w : World} (hs : s.size ≤ 4000000) (hp : p.size ≤ 65536) (h : Box (pre21 s.data.toList p.data.toList = false)) :
    Calls Tryd.prog 86 #[.string s, .string p] w fun e w' => e = .returned (.tuple #[.string s, .bool false]) ∧ w = w' := by
  go_enter Tryd.func86, Tryd.ntmps86
  go_wp2_with fail
  refine (scutPre21_no hs hp h).mono ?_; rintro e w1 ⟨rfl, rfl⟩
  go_wp2
  go_ret2
  exact ⟨rfl, rfl⟩
theorem cutPre21_yes {s p x : ByteArray} {w : World} (hs : s.size ≤ 4000000) (hp : p.size ≤ 65536) (h : Box (pre21 s.data.toList p.data.toList = true)) (hx : Box (s.extract p.size s.size = x)) :
    Calls Tryd.prog 86 #[.string s, .string p] w fun e w' => e = .returned (.tuple #[.string x, .bool true]) ∧ w = w' := by
  go_enter Tryd.func86, Tryd.ntmps86
  go_wp2_with fail
  refine (scutPre21_yes hs hp h hx).mono ?_; rintro e w1 ⟨rfl, rfl⟩
  go_wp2
  go_ret2
  exact ⟨rfl, rfl⟩
theorem ext_drop21 {s : ByteArray} (k : Nat) : (s.extract k s.size).data.toList = s.data.toList.drop k := by rw [ext_bs, bs_toList, List.take_of_length_le (by simp)]
end
section
open Go.RowKit
def numT (o : Option Int) : Value := .tuple #[.int .i64 (numV o).1, .bool (numV o).2]
theorem numT_of {o : Option Int} {a : Int} {b : Bool} (h : numV o = (a, b)) : Ending.returned (.tuple #[.int .i64 a, .bool b]) = .returned (numT o) := by
  unfold numT; rw [h]
theorem appendDigit_any (v d : Int) (w : World) (h0 : 0 ≤ v) (h1 : v ≤ 2147483647) (h2 : 0 ≤ d) (h3 : d ≤ 9) :
    Calls Tryd.prog 59 #[.int .i64 v, .int .i64 d] w fun e w' => e = .returned (.int .i64 (satI v d)) ∧ w = w' := by
  go_enter Tryd.func59, Tryd.ntmps59
  go_wp2
  all_goals (go_ret; exact ⟨ret_int (by unfold satI; split <;> omega), rfl⟩)
theorem Number_any (s : ByteArray) (w : World) (hs : s.size ≤ maxLen) :
    Calls Tryd.prog 38 #[.string s] w fun e w' => e = .returned (numT (numL s.data.toList)) ∧ w = w' := by
  unfold maxLen at hs
  go_enter Tryd.func38, Tryd.ntmps38
  go_wp2
  go_loop [4, 5, 8] (fun v _ i => ∃ k : Nat, k ≤ s.size ∧ i = .int .i64 k ∧ v = .int .i64 (numF (s.data.toList.take k)) ∧ 0 ≤ numF (s.data.toList.take k) ∧ numF (s.data.toList.take k) ≤ 2147483647 ∧ allI digitI (s.data.toList.take k) = true) (fun _ _ i => s.size - (intOf i).toNat)
  case atStart => exact ⟨0, Nat.zero_le _, rfl, rfl, by simp [numF], by simp [numF], rfl⟩
  case round =>
    obtain ⟨k, hk, rfl, rfl, hn0, hn1, hall⟩ := hrel
    by_cases hlt : k < s.size
    · have hb := byte_bd s k hlt
      rcases hp : digitI (s[k].toNat) with _ | _
      · go_wp2_with (go_at_call 58; refine (isDigit_any _ _ hb.1 hb.2).mono ?_; rintro e w' ⟨rfl, rfl⟩)
        go_ret2
        exact ⟨numT_of (by rw [num_not hlt hp]; rfl), rfl⟩
      · have hd := digitI_bd hp
        have HM := Lib.hid (numF_more hlt)
        have HB := satI_bd (v := numF (s.data.toList.take k)) (d := (s[k].toNat : Int) - 48) hn0 (by omega)
        rw [← HM.out] at HB
        have HBB := Lib.hid HB
        have HA := Lib.hid (all_more hall hlt hp)
        have HH := Lib.hid hall
        clear HB hall
        go_wp2_with (first | (go_at_call 58; refine (isDigit_any _ _ hb.1 hb.2).mono ?_; rintro e w' ⟨rfl, rfl⟩) | (go_at_call 59; refine (appendDigit_any _ _ _ hn0 hn1 (by omega) (by omega)).mono ?_; rintro e w' ⟨rfl, rfl⟩))
        go_round
        case rel => exact ⟨k + 1, by omega, by go_num, by rw [HM.out], HBB.out.1, HBB.out.2, HA.out⟩
        case measure => simp [intOf]; omega
    · go_wp2
      go_ret2
      exact ⟨numT_of (num_end hall (by omega)), rfl⟩
theorem rNumber_any (s : ByteArray) (w : World) (hs : s.size ≤ maxLen) :
    Calls Tryd.prog 27 #[.string s] w fun e w' => e = .returned (numT (numL s.data.toList)) ∧ w = w' := by
  unfold maxLen at hs
  go_enter Tryd.func27, Tryd.ntmps27
  go_wp2
  go_loop [4, 5] (fun v i => ∃ k : Nat, k ≤ s.size ∧ i = .int .i64 k ∧ v = .int .i64 (numF (s.data.toList.take k)) ∧ 0 ≤ numF (s.data.toList.take k) ∧ numF (s.data.toList.take k) ≤ 2147483647 ∧ allI digitI (s.data.toList.take k) = true) (fun _ i => s.size - (intOf i).toNat)
  case atStart => exact ⟨0, Nat.zero_le _, rfl, rfl, by simp [numF], by simp [numF], rfl⟩
  case round =>
    obtain ⟨k, hk, rfl, rfl, hn0, hn1, hall⟩ := hrel
    by_cases hlt : k < s.size
    · have hb := byte_bd s k hlt
      rcases hp : digitI (s[k].toNat) with _ | _
      · go_wp2_with (go_at_call 40; refine (rDigit_any _ _ hb.1 hb.2).mono ?_; rintro e w' ⟨rfl, rfl⟩)
        go_ret2
        exact ⟨numT_of (by rw [num_not hlt hp]; rfl), rfl⟩
      · have hd := digitI_bd hp
        have HM := Lib.hid (numF_more hlt)
        have HB := satI_bd (v := numF (s.data.toList.take k)) (d := (s[k].toNat : Int) - 48) hn0 (by omega)
        rw [← HM.out] at HB
        have HBB := Lib.hid HB
        have HA := Lib.hid (all_more hall hlt hp)
        have HH := Lib.hid hall
        clear HB hall
        by_cases hbig : numF (s.data.toList.take k) * 10 + ((s[k].toNat : Int) - 48) > 2147483647
        · go_wp2_with (go_at_call 40; refine (rDigit_any _ _ hb.1 hb.2).mono ?_; rintro e w' ⟨rfl, rfl⟩)
          go_round
          case rel => exact ⟨k + 1, by omega, by go_num, by rw [HM.out, satI, if_pos (by omega)], HBB.out.1, HBB.out.2, HA.out⟩
          case measure => simp [intOf]; omega
        · go_wp2_with (go_at_call 40; refine (rDigit_any _ _ hb.1 hb.2).mono ?_; rintro e w' ⟨rfl, rfl⟩)
          go_round
          case rel => exact ⟨k + 1, by omega, by go_num, by rw [HM.out, satI, if_neg (by omega)], HBB.out.1, HBB.out.2, HA.out⟩
          case measure => simp [intOf]; omega
    · go_wp2
      go_ret2
      exact ⟨numT_of (num_end hall (by omega)), rfl⟩
end
section
open Go.RowKit
theorem info_u8 : (Tryd.prog.info? 5).map (fun i => (i.zero, i.size, i.bytes)) = some (some (.int .u8 0), 1, 1) := by kernel_rfl
theorem data_at (s : ByteArray) (k : Nat) (h : k < s.size) : s.data.toList.getD k 0 = s[k] := by
  rw [getD_get _ _ (by simpa using h)]; rfl
theorem size_list (s : ByteArray) : s.data.toList.length = s.size := by simp
def Own (w : World) (B : Nat) (v : Value) (l : List UInt8) : Prop := w.ownsRow B 5 1 v l.length (l.map bv)
section
variable {w w' : World} {B : Nat} {v : Value} {l : List UInt8}
theorem Own.nil (w : World) (B : Nat) : Own w B (.slice none 0 0) [] := World.ownsRow_nil _ _ _ _
theorem Own.alloc (h : Own w B v l) (o : Obj) : Own (w.alloc o) B v l := World.ownsRow.alloc h o
theorem Own.drew (h : Own w B v l) : Own w.drew B v l := h
theorem Own.block (h : Own w B v l) : ∀ k, v.ownBlock = some k → B ≤ k := by
  intro k hk
  rcases h.2 with ⟨rfl, _⟩ | ⟨g, cap, cur, rfl, hb, _⟩
  · simp [Value.ownBlock] at hk
  · simp [Value.ownBlock] at hk; omega
/-- 'string(v)' -/
theorem Own.str (h : Own w B v l) : (convert 89 9 v).run Tryd.prog w = .ok (.string ⟨l.toArray⟩) w := by
  rcases h.2 with ⟨rfl, hn⟩ | ⟨g, cap, cur, rfl, hb, hh, hnc, hcm, hcs, htake⟩
  · have : l = [] := by simpa using hn
    subst this
    rw [run_convert_bytes_string w 89 9 5 none 0 0 Tryd.underlying89 Tryd.underlying5 Tryd.underlying9]
    rfl
  · refine run_convert_bytes_back w 89 9 5 ⟨g, 0, none⟩ cap l Tryd.underlying89 Tryd.underlying5 Tryd.underlying9 fun j hj => ?_
    have ea : (⟨g, 0, none⟩ : Addr).add j = ⟨g, j, none⟩ := by unfold Addr.add; split <;> simp_all
    rw [ea, World.ownsRow.cellAt h j (by omega)]
    simp [hj, bv]
end
/-- append of one byte that lies in a block of its own -/
theorem wpList_append_byte (w : World) {ops : Array Oper} {rest : List Oper} {o : Oper} {a : Act} {Q : Exit → Act → World → Prop} (hgd : o.guard = none) (s x : Operand)
    (ho : o.op = .call { callee := .builtin .append, args := #[s, x], argTypes := #[89, 89] })
    (B : Nat) (v : Value) (l : List UInt8) (hs : a.eval s = v) (hown : Own w B v l)
    (g : Nat) (hx : a.eval x = .slice (some ⟨g, 0, none⟩) 1 1) (b : Int) (c : UInt8) (hb : b = (c.toNat : Int)) (hc : w.cell? ⟨g, 0, none⟩ = some (.int .u8 b)) (hl : l.length < 8589934592) (hB : B ≤ w.heap.size)
    (h : ∀ v' w', Own w' B v' (l ++ [c]) → Below B w w' → wpList Tryd.prog ops Q rest (a.put o.dst v') w') : wpList Tryd.prog ops Q (o :: rest) a w := by
  subst hb
  obtain ⟨i0, hi0, hz0, hz1, hz2⟩ := info_parts info_u8
  refine wpList_append_own (P := Tryd.prog) w hgd s x 89 ho B 5 i0 _ 1 1 Tryd.underlying89 hi0 hz0 hz1 hz2 rfl (by decide) v l.length (l.map bv) hs hown ⟨g, 0, none⟩ 1 1 [bv c] hx rfl ?_ ?_ (by unfold maxLen; omega) (by omega) hB ?_
  · intro j u hj
    match j, hj with
    | 0, hj => simp at hj; subst hj; simpa [Addr.add, bv] using hc
  · intro u hu; simp at hu; subst hu; rfl
  · intro v' w' h1 h2 _
    refine h v' w' (by simpa [Own] using h1) ((Below.refl _ _).grown h2 hB (fun k hk => Own.block hown k hk))
end
section
open Go.RowKit
/-- the two results of a function that returns a string and whether there is one -/
def optV : Option (List UInt8) → Value
  | none => .tuple #[.string ⟨#[]⟩, .bool false]
  | some l => .tuple #[.string ⟨l.toArray⟩, .bool true]
theorem unescape_any (s : ByteArray) (w : World) (hs : s.size ≤ 4294967296) :
    Calls Tryd.prog 95 #[.string s] w fun e w' => e = .returned (optV (unescL s.data.toList)) ∧ Below w.heap.size w w' := by
  obtain ⟨i0, hi0, hz0, hz1, hz2⟩ := info_parts info_u8
  have hmk := fun (w : World) => run_make (P := Tryd.prog) w 89 5 i0 _ Tryd.underlying89 hi0 hz0 .i64 .i64 0 s.size (by omega) (by omega) (by rw [hz2]; omega) (by omega)
  simp only [Int.toNat_natCast, hz1, Nat.mul_one] at hmk
  go_enter Tryd.func95, Tryd.ntmps95
  go_wp2
  have hO0 : Own (w.alloc (.cells (madeCells #[.int .u8 0] s.size) 5)) w.heap.size (.slice (some ⟨w.heap.size, 0, none⟩) 0 s.size) [] :=
    ⟨rfl, .inr ⟨_, _, _, rfl, Nat.le_refl _, heap_alloc_new w _, Nat.zero_le _, by unfold maxLen; omega, by simp [size_madeCells], rfl⟩⟩
  go_loopw [4, 5] (fun v i wr => ∃ (k : Nat) (acc : List UInt8), k ≤ s.size ∧ i = .int .i64 k ∧ Own wr w.heap.size v acc ∧ UnAt s.data.toList k acc ∧ Below w.heap.size w wr) (fun _ i _ => s.size - (intOf i).toNat)
  case atStart => exact ⟨0, [], Nat.zero_le _, rfl, hO0, UnAt.start _, (Below.refl _ _).alloc (Nat.le_refl _) _⟩
  case round =>
    obtain ⟨k, acc, hk, rfl, hO, hU, hbel⟩ := hrel
    clear hO0 hmk
    have ha := hU.1
    by_cases hlt : k < s.size
    · rcases h1 : ((s[k].toNat : Int) == 34) with _ | _
      · rcases h2 : ((s[k].toNat : Int) == 92) with _ | _
        · go_wp2_with (at_builtin; refine wpList_append_byte _ rfl (.tmp 28) (.tmp 32) rfl w.heap.size _ acc rfl (hO.alloc _) _ rfl _ s[k] rfl (by go_simp) (by omega) (by have := hbel.size; simp; omega) ?_; intro v' w1 hO1 hb1)
          go_roundw
          case rel => exact ⟨k + 1, _, by omega, by go_num, hO1, hU.plain hlt h1 h2, hbel.alloc hbel.size _ |>.trans hb1⟩
          case measure => simp [intOf]; omega
        · by_cases he : k + 1 < s.size
          · go_wp2_with (at_builtin; refine wpList_append_byte _ rfl (.tmp 28) (.tmp 32) rfl w.heap.size _ acc rfl (hO.alloc _) _ rfl _ s[k + 1] rfl (by go_simp) (by omega) (by have := hbel.size; simp; omega) ?_; intro v' w1 hO1 hb1)
            go_roundw
            case rel => exact ⟨k + 1 + 1, _, by omega, by go_num, hO1, hU.esc hlt h2 he, hbel.alloc hbel.size _ |>.trans hb1⟩
            case measure => simp [intOf]; omega
          · go_wp2
            go_ret2
            exact ⟨by rw [hU.last hlt h2 (by omega)]; rfl, hbel⟩
      · go_wp2
        go_ret2
        exact ⟨by rw [hU.quote hlt h1]; rfl, hbel⟩
    · have hst := hO.str
      go_wp2
      go_ret2
      exact ⟨by rw [hU.fin (by simp; omega)]; rfl, hbel⟩
end
section
open Go.RowKit
theorem unescape_none {s : ByteArray} {w : World} (hs : s.size ≤ 4294967296) (h : unescL s.data.toList = none) :
    Calls Tryd.prog 95 #[.string s] w fun e w' => e = .returned (.tuple #[.string ⟨#[]⟩, .bool false]) ∧ Below w.heap.size w w' :=
  (unescape_any s w hs).mono fun e w' ⟨he, hb⟩ => ⟨by rw [he, h]; rfl, hb⟩
theorem unescape_some {s : ByteArray} {w : World} {r : List UInt8} (hs : s.size ≤ 4294967296) (h : unescL s.data.toList = some r) :
    Calls Tryd.prog 95 #[.string s] w fun e w' => e = .returned (.tuple #[.string ⟨r.toArray⟩, .bool true]) ∧ Below w.heap.size w w' :=
  (unescape_any s w hs).mono fun e w' ⟨he, hb⟩ => ⟨by rw [he, h]; rfl, hb⟩
set_option maxHeartbeats 800000 in
theorem Unquote_any (s : ByteArray) (w : World) (hs : s.size ≤ 4294967296) :
    Calls Tryd.prog 87 #[.string s] w fun e w' => e = .returned (optV (unqL s.data.toList)) ∧ Below w.heap.size w w' := by
  by_cases h2 : s.size < 2
  · go_enter Tryd.func87, Tryd.ntmps87
    go_wp2
    go_ret2
    exact ⟨by rw [unq_short h2]; rfl, Below.refl _ _⟩
  · have hp : 0 < s.size := by omega
    have hq : s.size - 1 < s.size := by omega
    by_cases h0 : ((s[0]'hp).toNat : Int) = 34
    · rcases h1 : (((s[s.size - 1]'hq).toNat : Int) != 34) with _ | _
      · have hu := unq_in h2 hp h0 hq h1
        have HI : Hid ((s.extract 1 (s.size - 1)).size ≤ 4294967296) := Lib.hid (by rw [ByteArray.size_extract]; omega)
        have HM : Hid ((s.extract 1 (s.size - 1)).size ≤ maxLen) := Lib.hid (by have := HI.out; unfold maxLen; omega)
        have HU := Lib.hid hu
        clear hu
        go_enter Tryd.func87, Tryd.ntmps87
        go_wp2_with fail
        refine (Text_any _ _ HM.out).mono ?_; rintro e w' ⟨rfl, rfl⟩
        rcases ht : textL (s.extract 1 (s.size - 1)).data.toList with _ | _
        · have HT := Lib.hid (unqIn_not ht)
          clear ht
          go_wp2
          go_ret2
          exact ⟨by rw [HU.out, HT.out]; rfl, Below.refl _ _⟩
        · have HT := Lib.hid (unqIn_text ht)
          clear ht
          go_wp2_with fail
          rcases hr : unescL (s.extract 1 (s.size - 1)).data.toList with _ | r
          · have HR := Lib.hid hr
            clear hr
            refine (unescape_none HI.out HR.out).mono ?_; rintro e w' ⟨rfl, hb⟩
            go_wp2
            go_ret2
            exact ⟨by rw [HU.out, HT.out, HR.out]; rfl, hb⟩
          · have HR := Lib.hid hr
            clear hr
            refine (unescape_some HI.out HR.out).mono ?_; rintro e w' ⟨rfl, hb⟩
            go_wp2
            go_ret2
            exact ⟨by rw [HU.out, HT.out, HR.out]; rfl, hb⟩
      · go_enter Tryd.func87, Tryd.ntmps87
        go_wp2
        go_ret2
        exact ⟨by rw [unq_last hq h1]; rfl, Below.refl _ _⟩
    · go_enter Tryd.func87, Tryd.ntmps87
      go_wp2
      go_ret2
      exact ⟨by rw [unq_head hp h0]; rfl, Below.refl _ _⟩
set_option maxHeartbeats 800000 in
theorem rUnquote_any (s : ByteArray) (w : World) (hs : s.size ≤ 4294967296) :
    Calls Tryd.prog 79 #[.string s] w fun e w' => e = .returned (optV (unqL s.data.toList)) ∧ Below w.heap.size w w' := by
  by_cases h2 : s.size < 2
  · go_enter Tryd.func79, Tryd.ntmps79
    go_wp2
    go_ret2
    exact ⟨by rw [unq_short h2]; rfl, Below.refl _ _⟩
  · have hp : 0 < s.size := by omega
    have hq : s.size - 1 < s.size := by omega
    by_cases h0 : ((s[0]'hp).toNat : Int) = 34
    · rcases h1 : (((s[s.size - 1]'hq).toNat : Int) != 34) with _ | _
      · have hu := unq_in h2 hp h0 hq h1
        have hin : (s.extract 1 (s.size - 1)).size ≤ 4294967296 := by rw [ByteArray.size_extract]; omega
        have HU := Lib.hid hu
        clear hu
        go_enter Tryd.func79, Tryd.ntmps79
        go_wp2_with fail
        clear h0 h1 h2 hp hq
        generalize hg : s.extract 1 (s.size - 1) = t at *
        have HG := Lib.hid hg
        clear hg
        go_loopw [4, 5] (fun v i wr => ∃ (k : Nat) (acc : List UInt8), k ≤ t.size ∧ i = .int .i64 k ∧ Own wr w.heap.size v acc ∧ UnAt t.data.toList k acc ∧ allI textI (t.data.toList.take k) = true ∧ Below w.heap.size w wr) (fun _ i _ => t.size - (intOf i).toNat)
        case atStart => exact ⟨0, [], Nat.zero_le _, rfl, Own.nil _ _, UnAt.start _, rfl, Below.refl _ _⟩
        case round =>
          obtain ⟨k, acc, hk, rfl, hO, hU, hT, hbel⟩ := hrel
          have ha := hU.1
          by_cases hlt : k < t.size
          · rcases h1 : ((t[k].toNat : Int) == 34) with _ | _
            · rcases h2 : ((t[k].toNat : Int) == 92) with _ | _
              · have hb := byte_bd t k hlt
                rcases hp : textI (t[k].toNat) with _ | _
                · go_wp2_with (go_at_call 91; refine (textByte_any _ _ hb.1 hb.2).mono ?_; rintro e w' ⟨rfl, rfl⟩)
                  go_ret2
                  exact ⟨by rw [HU.out, unqIn_not (textL_not hlt hp)]; rfl, hbel⟩
                · go_wp2_with (first | (go_at_call 91; refine (textByte_any _ _ hb.1 hb.2).mono ?_; rintro e w' ⟨rfl, rfl⟩) | (at_builtin; refine wpList_append_byte _ rfl _ _ rfl w.heap.size _ acc rfl (hO.alloc _) _ rfl _ t[k] rfl (by go_simp) (by omega) (by have := hbel.size; simp; omega) ?_; intro v' w1 hO1 hb1))
                  go_roundw
                  case rel => exact ⟨k + 1, _, by omega, by go_num, hO1, hU.plain hlt h1 h2, all_more hT hlt hp, hbel.alloc hbel.size _ |>.trans hb1⟩
                  case measure => simp [intOf]; omega
              · by_cases he : k + 1 < t.size
                · have hb := byte_bd t (k + 1) he
                  rcases hp : textI (t[k + 1].toNat) with _ | _
                  · go_wp2_with (go_at_call 91; refine (textByte_any _ _ hb.1 hb.2).mono ?_; rintro e w' ⟨rfl, rfl⟩)
                    go_ret2
                    exact ⟨by rw [HU.out, unqIn_not (textL_not he hp)]; rfl, hbel⟩
                  · have h92 : textI (t[k].toNat) = true := by have := eq_of_beq h2; rw [this]; rfl
                    have HA := Lib.hid (all_more (all_more hT hlt h92) he hp)
                    clear h92
                    go_wp2_with (first | (go_at_call 91; refine (textByte_any _ _ hb.1 hb.2).mono ?_; rintro e w' ⟨rfl, rfl⟩) | (at_builtin; refine wpList_append_byte _ rfl _ _ rfl w.heap.size _ acc rfl (hO.alloc _) _ rfl _ t[k + 1] rfl (by go_simp) (by omega) (by have := hbel.size; simp; omega) ?_; intro v' w1 hO1 hb1))
                    go_roundw
                    case rel => exact ⟨k + 1 + 1, _, by omega, by go_num, hO1, hU.esc hlt h2 he, HA.out, hbel.alloc hbel.size _ |>.trans hb1⟩
                    case measure => simp [intOf]; omega
                · go_wp2
                  go_ret2
                  exact ⟨by rw [HU.out, unqIn_none (hU.last hlt h2 (by omega))]; rfl, hbel⟩
            · go_wp2
              go_ret2
              exact ⟨by rw [HU.out, unqIn_none (hU.quote hlt h1)]; rfl, hbel⟩
          · have hst := hO.str
            go_wp2
            go_ret2
            exact ⟨by rw [HU.out, unqIn_text (textL_end hT (by omega)), hU.fin (by simp; omega)]; rfl, hbel⟩
      · go_enter Tryd.func79, Tryd.ntmps79
        go_wp2
        go_ret2
        exact ⟨by rw [unq_last hq h1]; rfl, Below.refl _ _⟩
    · go_enter Tryd.func79, Tryd.ntmps79
      go_wp2
      go_ret2
      exact ⟨by rw [unq_head hp h0]; rfl, Below.refl _ _⟩
end
section
open Go.RowKit
theorem Lower_any (s : ByteArray) (w : World) (hs : s.size ≤ 4294967296) :
    Calls Tryd.prog 64 #[.string s] w fun e w' => e = .returned (.string ⟨(lowL s.data.toList).toArray⟩) ∧ Below w.heap.size w w' := by
  obtain ⟨i0, hi0, hz0, hz1, hz2⟩ := info_parts info_u8
  have hmk := fun (w : World) => run_make (P := Tryd.prog) w 89 5 i0 _ Tryd.underlying89 hi0 hz0 .i64 .i64 s.size s.size (by omega) (by omega) (by rw [hz2]; omega) (by omega)
  simp only [Int.toNat_natCast, hz1, Nat.mul_one] at hmk
  go_enter Tryd.func64, Tryd.ntmps64
  go_wp2
  have hr : (List.replicate s.size (0 : UInt8)).length = s.data.toList.length := by simp
  have hB0 : Bys (w.alloc (.cells (madeCells #[.int .u8 0] s.size) 5)) w.heap.size (half (List.replicate s.size (0 : UInt8)) s.data.toList 0) := by
    rw [half_zero]
    refine ⟨by simp, fun j hj => ?_⟩
    rw [List.length_replicate] at hj
    refine ⟨?_, by go_simp⟩
    rw [World.cell?_alloc_at (hn := rfl), ← Array.getElem?_toList, toList_madeCells_one]
    simp [hj, bv, List.getD_eq_getElem?_getD, List.getElem?_replicate]
  go_loopw [4, 10] (fun u i wr => ∃ k : Nat, k ≤ s.size ∧ i = .int .i64 k ∧ Bys wr w.heap.size (half (List.replicate s.size (0 : UInt8)) s.data.toList k) ∧ Below w.heap.size w wr) (fun _ i _ => s.size - (intOf i).toNat)
  case atStart => exact ⟨0, Nat.zero_le _, rfl, hB0, ((Below.refl _ _).alloc (Nat.le_refl _) _)⟩
  case round =>
    obtain ⟨k, hk, rfl, hB, hbel⟩ := hrel
    clear hB0 hmk
    have hz := size_list s
    by_cases hlt : k < s.size
    · have hlt' : k < s.data.toList.length := by omega
      have hlh := half_length _ _ k hr
      obtain ⟨cv, hc⟩ : ∃ cv, wr.cell? ⟨w.heap.size, k, none⟩ = some cv := ⟨_, hB.cell (by omega)⟩
      have hf : wr.frozen? ⟨w.heap.size, k, none⟩ = false := hB.frozen (by omega)
      have hb := byte_bd s k hlt
      have hset := hB.set (k := k) (by omega) (lowB s[k])
      rw [half_step _ _ k hr hlt' s[k] rfl, bv_low] at hset
      have hbs := hbel.setCell (p := ⟨w.heap.size, k, none⟩) (Nat.le_refl _) (.int .u8 (lowI s[k].toNat))
      have HS := Lib.hid hset
      have HB := Lib.hid hbs
      clear hset hbs hz hr hlh
      go_wp2_with (go_at_call 85; refine (lowerByte_any _ _ hb.1 hb.2).mono ?_; rintro e w' ⟨rfl, rfl⟩)
      go_roundw
      case rel => exact ⟨k + 1, by omega, by go_num, HS.out, HB.out⟩
      case measure => simp [intOf]; omega
    · have hst := hB.str (P := Tryd.prog) 89 9 5 s.size s.size (by rw [half_length _ _ k hr, hz]) Tryd.underlying89 Tryd.underlying5 Tryd.underlying9
      rw [half_end _ _ k hr (by omega)] at hst
      clear hz hr
      go_wp2
      go_ret
      exact ⟨rfl, hbel⟩
theorem rLower_any (s : ByteArray) (w : World) (hs : s.size ≤ 4294967296) :
    Calls Tryd.prog 77 #[.string s] w fun e w' => e = .returned (.string ⟨(lowL s.data.toList).toArray⟩) ∧ Below w.heap.size w w' := by
  have hcv := fun (w : World) => run_bytes_of_string (P := Tryd.prog) w 9 89 5 s Tryd.underlying9 Tryd.underlying89 Tryd.underlying5
  go_enter Tryd.func77, Tryd.ntmps77
  go_wp2
  have hB0 : Bys (w.alloc (.cells (bytesRow s (grownCap w s.size 0 5)) 5 ((bytesRow s (grownCap w s.size 0 5)).size, (bytesRow s (grownCap w s.size 0 5)).size + 1))).drew w.heap.size (half s.data.toList s.data.toList 0) := by
    rw [half_zero]
    refine (Bys.new w _ _ _ _ _ ?_ ?_).drew
    · simp [bytesRow]
    · intro j hj
      rw [bytesRow_at s _ j (by simpa using hj), getD_get _ _ hj]; rfl
  go_loopw [4] (fun i wr => ∃ k : Nat, k ≤ s.size ∧ i = .int .i64 k ∧ Bys wr w.heap.size (half s.data.toList s.data.toList k) ∧ Below w.heap.size w wr) (fun i _ => s.size - (intOf i).toNat)
  case atStart => exact ⟨0, Nat.zero_le _, rfl, hB0, ((Below.refl _ _).alloc (Nat.le_refl _) _).drew⟩
  case round =>
    obtain ⟨k, hk, rfl, hB, hbel⟩ := hrel
    clear hB0 hcv
    have hz := size_list s
    by_cases hlt : k < s.size
    · have hlt' : k < s.data.toList.length := by omega
      have hlh := half_length s.data.toList s.data.toList k rfl
      have hc : wr.cell? ⟨w.heap.size, k, none⟩ = some (.int .u8 (s[k].toNat : Int)) := by
        have := hB.cell (j := k) (by omega)
        rw [half_get _ _ k rfl hlt', data_at s k hlt] at this; exact this
      have hf : wr.frozen? ⟨w.heap.size, k, none⟩ = false := hB.frozen (by omega)
      have hb := byte_bd s k hlt
      have hset := hB.set (k := k) (by omega) (lowB s[k])
      rw [half_step _ _ k rfl hlt' s[k] rfl, bv_low] at hset
      have hsame : lowI s[k].toNat = s[k].toNat → Bys wr w.heap.size (half s.data.toList s.data.toList (k + 1)) := fun h => by
        have e := half_step s.data.toList s.data.toList k rfl hlt' s[k] rfl
        rw [← e]
        rw [lowB_same h]
        have h3 : (half s.data.toList s.data.toList k).set k s[k] = half s.data.toList s.data.toList k := by
          apply List.ext_getElem?; intro j
          by_cases ej : k = j
          · subst ej
            have h4 := half_get s.data.toList s.data.toList k rfl hlt'
            rw [data_at s k hlt, getD_get _ _ (by omega)] at h4
            rw [List.getElem?_set_self (by omega), List.getElem?_eq_getElem (by omega), h4]
          · rw [List.getElem?_set_ne ej]
        rw [h3]; exact hB
      have hbs := hbel.setCell (p := ⟨w.heap.size, k, none⟩) (Nat.le_refl _) (.int .u8 (lowI s[k].toNat))
      have HS := Lib.hid hset
      have HB := Lib.hid hbs
      have HM := Lib.hid hsame
      clear hset hbs hz hlh hsame
      go_wp2
      · go_roundw
        case rel =>
          have el : lowI s[k].toNat = s[k].toNat + 32 := by unfold lowI; rw [if_pos ⟨‹_›, ‹_›⟩]
          have h1 := HS.out; have h2 := HB.out
          rw [el] at h1 h2
          exact ⟨k + 1, by omega, by go_num, h1, h2⟩
        case measure => simp [intOf]; omega
      all_goals
        go_roundw
        case rel => exact ⟨k + 1, by omega, by go_num, HM.out (by unfold lowI; rw [if_neg (by omega)]), hbel⟩
        case measure => simp [intOf]; omega
    · have hst := fun cap => hB.str (P := Tryd.prog) 89 9 5 s.size cap (by rw [half_length _ _ k rfl, hz]) Tryd.underlying89 Tryd.underlying5 Tryd.underlying9
      rw [half_end _ _ k rfl (by omega)] at hst
      clear hz
      go_wp2
      go_ret
      exact ⟨rfl, hbel⟩
end
end Go.Proofs.YteemoibikkmlbaaDoor.Asc
