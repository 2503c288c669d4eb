/- Merged texts: FrsLaws2. -/
import Derived.Test.YteemoibikkmlbaaDoorZs12
import Derived.Test.YteemoibikkmlbaaDoorZs13
import Derived.Test.YteemoibikkmlbaaDoorZs14
import Derived.Deep.RegionHeld3
set_option linter.unusedVariables false
set_option linter.unusedSimpArgs false
set_option maxRecDepth 100000
namespace Go.Proofs.YteemoibikkmlbaaDoor.Asc
section
open Go.RowKit
/-- two controls lie one behind the other, beside the tables -/
structure TwoC (w : World) (c d : CT) (w' : World) : Prop where
  c : Ct w.heap.size c w'
  d : Ct (w.heap.size + 1) d w'
  t : Tabs w'
  b : Below w.heap.size w w'
section
variable {w w' w'' : World} {c d : CT}
theorem TwoC.next (h : TwoC w c d w') (hb : Below w'.heap.size w' w'') : TwoC w c d w'' := ⟨h.c.next hb, h.d.next hb, h.t.below hb, h.b.trans (hb.mono h.b.size)⟩
theorem TwoC.drewN {n : Nat} (h : TwoC w c d w') : TwoC w c d (w'.drewN n) := h.next (below_drewN _ _)
theorem TwoC.new (w : World) (c d : CT) (t1 t2 : TypeId) (hW : Tabs w) : TwoC w c d ((w.alloc (.cells (ctA c) t1)).alloc (.cells (ctA d) t2)) := by
  have b1 := below_new w (.cells (ctA c) t1)
  have b2 := below_new (w.alloc (.cells (ctA c) t1)) (.cells (ctA d) t2)
  have D := Ct.new d (w.alloc (.cells (ctA c) t1)) t2
  rw [show (w.alloc (.cells (ctA c) t1)).heap.size = w.heap.size + 1 from by simp] at D
  exact ⟨(Ct.new c w t1).next b2, D, (hW.below b1).below b2, b1.trans (b2.mono b1.size)⟩
theorem TwoC.cells (h : TwoC w c d w') : w'.cell? ⟨w.heap.size, 0, none⟩ = some (.bool c.ns) ∧ w'.cell? ⟨w.heap.size, 1, none⟩ = some (.bool c.nc) ∧ w'.cell? ⟨w.heap.size, 2, none⟩ = some (.bool c.mr) ∧ w'.cell? ⟨w.heap.size, 3, none⟩ = some (.bool c.pr) ∧ w'.cell? ⟨w.heap.size, 4, none⟩ = some (.bool c.pv) ∧ w'.cell? ⟨w.heap.size, 5, none⟩ = some (.bool c.pb) ∧ w'.cell? ⟨w.heap.size, 6, none⟩ = some (.bool c.oc) ∧ w'.cell? ⟨w.heap.size, 7, none⟩ = some (.int .i64 c.ma) ∧ w'.cell? ⟨w.heap.size, 8, none⟩ = some (.int .i64 c.sm) ∧ w'.cell? ⟨w.heap.size, 9, none⟩ = some (.int .i64 c.mf) ∧ w'.cell? ⟨w.heap.size, 10, none⟩ = some (.int .i64 c.ms) ∧ w'.cell? ⟨w.heap.size + 1, 0, none⟩ = some (.bool d.ns) ∧ w'.cell? ⟨w.heap.size + 1, 1, none⟩ = some (.bool d.nc) ∧ w'.cell? ⟨w.heap.size + 1, 2, none⟩ = some (.bool d.mr) ∧ w'.cell? ⟨w.heap.size + 1, 3, none⟩ = some (.bool d.pr) ∧ w'.cell? ⟨w.heap.size + 1, 4, none⟩ = some (.bool d.pv) ∧ w'.cell? ⟨w.heap.size + 1, 5, none⟩ = some (.bool d.pb) ∧ w'.cell? ⟨w.heap.size + 1, 6, none⟩ = some (.bool d.oc) ∧ w'.cell? ⟨w.heap.size + 1, 7, none⟩ = some (.int .i64 d.ma) ∧ w'.cell? ⟨w.heap.size + 1, 8, none⟩ = some (.int .i64 d.sm) ∧ w'.cell? ⟨w.heap.size + 1, 9, none⟩ = some (.int .i64 d.mf) ∧ w'.cell? ⟨w.heap.size + 1, 10, none⟩ = some (.int .i64 d.ms) := by
  obtain ⟨⟨c0, c1, c2, c3, c4, c5, c6, c7, c8, c9, c10⟩, _⟩ := h.c
  obtain ⟨⟨d0, d1, d2, d3, d4, d5, d6, d7, d8, d9, d10⟩, _⟩ := h.d
  exact ⟨c0, c1, c2, c3, c4, c5, c6, c7, c8, c9, c10, d0, d1, d2, d3, d4, d5, d6, d7, d8, d9, d10⟩
end
theorem rFresh_is {f a : Int} {q r : CT} {v : Bool} {w : World} (h : Box (freshV f a q r = v)) :
    Calls Tryd.prog 18 #[.int .i64 f, .int .i64 a, .agg #[.bool q.ns, .bool q.nc, .bool q.mr, .bool q.pr, .bool q.pv, .bool q.pb, .bool q.oc, .int .i64 q.ma, .int .i64 q.sm, .int .i64 q.mf, .int .i64 q.ms], .agg #[.bool r.ns, .bool r.nc, .bool r.mr, .bool r.pr, .bool r.pv, .bool r.pb, .bool r.oc, .int .i64 r.ma, .int .i64 r.sm, .int .i64 r.mf, .int .i64 r.ms]] w fun e w' => e = .returned (.bool v) ∧ Below w.heap.size w w' :=
  (rFresh_any f a q r w).mono fun e w' ⟨h1, h2⟩ => ⟨by rw [h1, h.out], h2⟩
set_option maxRecDepth 100000 in
set_option maxHeartbeats 4000000 in
theorem decides23_walk (f a : Int) (q r : CT) (w : World) (hf : (Lit.int .i64 f).wf = true) (ha : (Lit.int .i64 a).wf = true) (hq : InI64 q.ma ∧ InI64 q.sm ∧ InI64 q.mf ∧ InI64 q.ms) (hr : InI64 r.ma ∧ InI64 r.sm ∧ InI64 r.mf ∧ InI64 r.ms) (hW : Tabs w) :
    Calls Tryd.prog 5 #[.int .i64 f, .int .i64 a, ctV q, ctV r] w fun e w' => e = .returned (.bool true) ∧ Below w.heap.size w w' := by
  have K0 := box (TwoC.new w q r 31 31 hW)
  obtain ⟨v, hv⟩ : ∃ v, freshV f a q r = v := ⟨_, rfl⟩
  have HV := box hv
  have sv : (v == v) = true := by simp
  unfold ctV ctA
  unfold ctA at K0
  clear hf ha hq hr hW hv
  go_enter Tryd.func5, Tryd.ntmps5
  go_wp2
  go_region_held3 (fun w' => w'.cell? ⟨w.heap.size, 0, none⟩ = some (.bool q.ns) ∧ w'.cell? ⟨w.heap.size, 1, none⟩ = some (.bool q.nc) ∧ w'.cell? ⟨w.heap.size, 2, none⟩ = some (.bool q.mr) ∧ w'.cell? ⟨w.heap.size, 3, none⟩ = some (.bool q.pr) ∧ w'.cell? ⟨w.heap.size, 4, none⟩ = some (.bool q.pv) ∧ w'.cell? ⟨w.heap.size, 5, none⟩ = some (.bool q.pb) ∧ w'.cell? ⟨w.heap.size, 6, none⟩ = some (.bool q.oc) ∧ w'.cell? ⟨w.heap.size, 7, none⟩ = some (.int .i64 q.ma) ∧ w'.cell? ⟨w.heap.size, 8, none⟩ = some (.int .i64 q.sm) ∧ w'.cell? ⟨w.heap.size, 9, none⟩ = some (.int .i64 q.mf) ∧ w'.cell? ⟨w.heap.size, 10, none⟩ = some (.int .i64 q.ms) ∧ w'.cell? ⟨w.heap.size + 1, 0, none⟩ = some (.bool r.ns) ∧ w'.cell? ⟨w.heap.size + 1, 1, none⟩ = some (.bool r.nc) ∧ w'.cell? ⟨w.heap.size + 1, 2, none⟩ = some (.bool r.mr) ∧ w'.cell? ⟨w.heap.size + 1, 3, none⟩ = some (.bool r.pr) ∧ w'.cell? ⟨w.heap.size + 1, 4, none⟩ = some (.bool r.pv) ∧ w'.cell? ⟨w.heap.size + 1, 5, none⟩ = some (.bool r.pb) ∧ w'.cell? ⟨w.heap.size + 1, 6, none⟩ = some (.bool r.oc) ∧ w'.cell? ⟨w.heap.size + 1, 7, none⟩ = some (.int .i64 r.ma) ∧ w'.cell? ⟨w.heap.size + 1, 8, none⟩ = some (.int .i64 r.sm) ∧ w'.cell? ⟨w.heap.size + 1, 9, none⟩ = some (.int .i64 r.mf) ∧ w'.cell? ⟨w.heap.size + 1, 10, none⟩ = some (.int .i64 r.ms)) (first | exact K3.out.cells | exact K2.out.cells | exact K1.out.cells | exact K0.out.cells | exact (K0.out.drewN).cells) (first | (go_at_call 14; refine (awake23_any _ K2.out.t).mono ?_; rintro e u3 ⟨rfl, hu⟩; have K3 := box ((K2.out).next hu); clear hu) | (go_at_call 18; refine (rFresh_is (q := q) (r := r) HV).mono ?_; rintro e u2 ⟨rfl, hu⟩; have K2 := box ((K1.out).next hu); clear hu) | (go_at_call 17; refine (mFresh_is (q := q) (r := r) HV).mono ?_; rintro e u1 ⟨rfl, hu⟩; have K1 := box ((K0.out.drewN).next hu); clear hu))
  all_goals
    go_wp2
    go_ret
    exact ⟨rfl, K3.out.b⟩
set_option maxHeartbeats 4000000 in
theorem falls23_walk (f a b : Int) (q r : CT) (w : World) (hf : (Lit.int .i64 f).wf = true) (ha : (Lit.int .i64 a).wf = true) (hb : (Lit.int .i64 b).wf = true) (hq : InI64 q.ma ∧ InI64 q.sm ∧ InI64 q.mf ∧ InI64 q.ms) (hr : InI64 r.ma ∧ InI64 r.sm ∧ InI64 r.mf ∧ InI64 r.ms) (hW : Tabs w) :
    Calls Tryd.prog 7 #[.int .i64 f, .int .i64 a, .int .i64 b, ctV q, ctV r] w fun e w' => e = .returned (.bool true) ∧ Below w.heap.size w w' := by
  have K0 := box (TwoC.new w q r 31 31 hW)
  unfold ctV ctA
  unfold ctA at K0
  clear hf ha hb hq hr hW
  by_cases h1 : a < 0
  · go_enter Tryd.func7, Tryd.ntmps7
    go_wp2
    go_ret
    exact ⟨rfl, K0.out.b⟩
  by_cases h2 : b < a
  · go_enter Tryd.func7, Tryd.ntmps7
    go_wp2
    go_ret
    exact ⟨rfl, K0.out.b⟩
  by_cases h3 : f < 0
  · go_enter Tryd.func7, Tryd.ntmps7
    go_wp2
    go_ret
    exact ⟨rfl, K0.out.b⟩
  rcases hv : freshV f b q r with _ | _
  · have HV := box hv
    clear hv
    go_enter Tryd.func7, Tryd.ntmps7
    go_wp2_with fail
    refine (mFresh_is (q := q) (r := r) HV).mono ?_; rintro e u1 ⟨rfl, hu⟩
    have K1 := box ((K0.out).next hu)
    clear hu
    go_wp2_with fail
    refine (awake23_any _ K1.out.t).mono ?_; rintro e u2 ⟨rfl, hu⟩
    have K2 := box ((K1.out).next hu)
    clear hu
    go_wp2
    go_ret
    exact ⟨rfl, K2.out.b⟩
  · have HV := box hv
    have HV2 : Box (freshV f a q r = true) := box (fresh_falls (by omega) (by omega) hv)
    clear hv
    go_enter Tryd.func7, Tryd.ntmps7
    go_wp2_with fail
    refine (mFresh_is (q := q) (r := r) HV).mono ?_; rintro e u1 ⟨rfl, hu⟩
    have K1 := box ((K0.out).next hu)
    obtain ⟨e0, e1, e2, e3, e4, e5, e6, e7, e8, e9, e10, e11, e12, e13, e14, e15, e16, e17, e18, e19, e20, e21⟩ := K1.out.cells
    clear hu
    go_wp2_with fail
    refine (mFresh_is (q := q) (r := r) HV2).mono ?_; rintro e u2 ⟨rfl, hu⟩
    have K2 := box ((K1.out).next hu)
    clear hu e0 e1 e2 e3 e4 e5 e6 e7 e8 e9 e10 e11 e12 e13 e14 e15 e16 e17 e18 e19 e20 e21
    go_wp2_with fail
    refine (awake23_any _ K2.out.t).mono ?_; rintro e u3 ⟨rfl, hu⟩
    have K3 := box ((K2.out).next hu)
    clear hu
    go_wp2
    go_ret
    exact ⟨rfl, K3.out.b⟩
theorem strict_m23 {x a : Int} (h : x = -1 ∨ a ≤ x) : ((x != -1) = false ∧ x = -1) ∨ ((x != -1) = true ∧ ¬ x < a ∧ a ≤ x) := by
  by_cases e : x = -1
  · exact Or.inl ⟨by simp [e], e⟩
  · have h2 : a ≤ x := by omega
    exact Or.inr ⟨by rw [bne_iff_ne]; exact e, by omega, h2⟩
theorem strict_f23 {x d : Int} (h : x = -1 ∨ x ≤ d) : ((x == -1) = true ∧ x = -1) ∨ ((x == -1) = false ∧ ¬ d < x ∧ x ≤ d) := by
  by_cases e : x = -1
  · exact Or.inl ⟨by simp [e], e⟩
  · have h2 : x ≤ d := by omega
    exact Or.inr ⟨by rw [beq_eq_false_iff_ne]; exact e, by omega, h2⟩
theorem strict_s23 {f a z s : Int} {m p : Bool} (h : f ≤ a → m = false ∧ p = false ∧ z = -1 ∧ s ≠ -1 ∧ a - f ≤ s) : a < f ∨ (f ≤ a ∧ m = false ∧ p = false ∧ z = -1 ∧ (s == -1) = false ∧ ¬ s < a - f) := by
  by_cases e : f ≤ a
  · obtain ⟨h1, h2, h3, h4, h5⟩ := h e
    exact Or.inr ⟨e, h1, h2, h3, by rw [beq_eq_false_iff_ne]; exact h4, by omega⟩
  · exact Or.inl (by omega)
set_option maxHeartbeats 8000000 in
theorem strict23_walk (f a : Int) (q r : CT) (w : World) (hf : (Lit.int .i64 f).wf = true) (ha : (Lit.int .i64 a).wf = true) (hq : InI64 q.ma ∧ InI64 q.sm ∧ InI64 q.mf ∧ InI64 q.ms) (hr : InI64 r.ma ∧ InI64 r.sm ∧ InI64 r.mf ∧ InI64 r.ms) (hW : Tabs w) :
    Calls Tryd.prog 8 #[.int .i64 f, .int .i64 a, ctV q, ctV r] w fun e w' => e = .returned (.bool true) ∧ Below w.heap.size w w' := by
  have K0 := box (TwoC.new w q r 31 31 hW)
  unfold ctV ctA
  unfold ctA at K0
  clear hf ha hq hr hW
  rcases hv : freshV f a q r with _ | _
  · have HV := box hv
    clear hv
    go_enter Tryd.func8, Tryd.ntmps8
    go_wp2_with fail
    refine (mFresh_is (q := q) (r := r) HV).mono ?_; rintro e u1 ⟨rfl, hu⟩
    have K1 := box ((K0.out).next hu)
    clear hu
    go_wp2_with fail
    refine (awake23_any _ K1.out.t).mono ?_; rintro e u2 ⟨rfl, hu⟩
    have K2 := box ((K1.out).next hu)
    clear hu
    go_wp2
    go_ret
    exact ⟨rfl, K2.out.b⟩
  · have HV := box hv
    obtain ⟨⟨hf0, hf1, ha0, ha1⟩, hn1, hn2, hma, hst, hmf⟩ := fresh_strict hv
    clear hv
    obtain ⟨qns, qnc, qmr, qpr, qpv, qpb, qoc, qma, qsm, qmf, qms⟩ := q
    obtain ⟨rns, rnc, rmr, rpr, rpv, rpb, roc, rma, rsm, rmf, rms⟩ := r
    obtain rfl : qnc = false := hn1
    obtain rfl : rnc = false := hn2
    change qma = -1 ∨ a ≤ qma at hma
    change f ≤ a → rmr = false ∧ rpr = false ∧ rsm = -1 ∧ qms ≠ -1 ∧ a - f ≤ qms at hst
    change qmf = -1 ∨ qmf ≤ f - a at hmf
    rcases strict_m23 hma with ⟨m1, -⟩ | ⟨m1, m2, HM⟩ <;> rcases strict_f23 hmf with ⟨n1, -⟩ | ⟨n1, n2, HN⟩ <;> rcases strict_s23 hst with s1 | ⟨s1, rfl, rfl, rfl, s2, s3⟩
    all_goals clear hma hst hmf
    all_goals
      have is : IntKind.i64.wrap (f - a) = f - a := IntWalk.i64_in _ (by omega)
      have is2 : IntKind.i64.wrap (a - f) = a - f := IntWalk.i64_in _ (by omega)
      go_enter Tryd.func8, Tryd.ntmps8
      go_wp2_with fail
      refine (mFresh_is (q := ⟨qns, false, qmr, qpr, qpv, qpb, qoc, qma, qsm, qmf, qms⟩) (r := ⟨rns, false, _, _, rpv, rpb, roc, rma, _, rmf, rms⟩) HV).mono ?_; rintro e u1 ⟨rfl, hu⟩
      have K1 := box ((K0.out).next hu)
      obtain ⟨e0, e1, e2, e3, e4, e5, e6, e7, e8, e9, e10, e11, e12, e13, e14, e15, e16, e17, e18, e19, e20, e21⟩ := K1.out.cells
      clear hu
      go_wp2_with fail
      refine (awake23_any _ K1.out.t).mono ?_; rintro e u2 ⟨rfl, hu⟩
      have K2 := box ((K1.out).next hu)
      clear hu e0 e1 e2 e3 e4 e5 e6 e7 e8 e9 e10 e11 e12 e13 e14 e15 e16 e17 e18 e19 e20 e21
      go_wp2
      go_ret
      exact ⟨rfl, K2.out.b⟩
end
end Go.Proofs.YteemoibikkmlbaaDoor.Asc
