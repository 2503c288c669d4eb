/- Merged texts: FrsRef4. -/
import Derived.Test.YteemoibikkmlbaaDoorZs11
set_option linter.unusedVariables false
set_option linter.unusedSimpArgs false
set_option maxRecDepth 100000
namespace Go.Proofs.YteemoibikkmlbaaDoor.Asc
section
open Go.RowKit
theorem rFreshA (f a : Int) (q r : CT) (w : World) (h : secB f = false ∨ secB a = false) :
    Calls Tryd.prog 18 #[.int .i64 f, .int .i64 a, .agg #[.bool q.ns, .bool q.nc, .bool q.mr, .bool q.pr, .bool q.pv, .bool q.pb, .bool q.oc, .int .i64 q.ma, .int .i64 q.sm, .int .i64 q.mf, .int .i64 q.ms], .agg #[.bool r.ns, .bool r.nc, .bool r.mr, .bool r.pr, .bool r.pv, .bool r.pb, .bool r.oc, .int .i64 r.ma, .int .i64 r.sm, .int .i64 r.mf, .int .i64 r.ms]] w fun e w' => e = .returned (.bool (freshV f a q r)) ∧ Below w.heap.size w w' := by
  have HV := box (fr_a23 (q := q) (r := r) h)
  obtain ⟨qns, qnc, qmr, qpr, qpv, qpb, qoc, qma, qsm, qmf, qms⟩ := q
  obtain ⟨rns, rnc, rmr, rpr, rpv, rpb, roc, rma, rsm, rmf, rms⟩ := r
  have h2 : f < 0 ∨ (¬ f < 0 ∧ 2147483647 < f) ∨ (¬ f < 0 ∧ ¬ 2147483647 < f ∧ a < 0) ∨ (¬ f < 0 ∧ ¬ 2147483647 < f ∧ ¬ a < 0 ∧ 2147483647 < a) := by
    unfold secB at h
    simp at h
    omega
  clear h
  rcases h2 with i1 | ⟨i1, i2⟩ | ⟨i1, i2, i3⟩ | ⟨i1, i2, i3, i4⟩
  · go_enter Tryd.func18, Tryd.ntmps18
    go_wp2
    go_ret
    exact ⟨ret_bool HV.out.symm, two_below23 _ _ _⟩
  · go_enter Tryd.func18, Tryd.ntmps18
    go_wp2
    go_ret
    exact ⟨ret_bool HV.out.symm, two_below23 _ _ _⟩
  · go_enter Tryd.func18, Tryd.ntmps18
    go_wp2
    go_ret
    exact ⟨ret_bool HV.out.symm, two_below23 _ _ _⟩
  · go_enter Tryd.func18, Tryd.ntmps18
    go_wp2
    go_ret
    exact ⟨ret_bool HV.out.symm, two_below23 _ _ _⟩
theorem rFreshB (f a : Int) (q r : CT) (w : World) (hf : secB f = true) (ha : secB a = true) (h : q.nc = true ∨ r.nc = true ∨ (q.ma ≠ -1 ∧ q.ma < a)) :
    Calls Tryd.prog 18 #[.int .i64 f, .int .i64 a, .agg #[.bool q.ns, .bool q.nc, .bool q.mr, .bool q.pr, .bool q.pv, .bool q.pb, .bool q.oc, .int .i64 q.ma, .int .i64 q.sm, .int .i64 q.mf, .int .i64 q.ms], .agg #[.bool r.ns, .bool r.nc, .bool r.mr, .bool r.pr, .bool r.pv, .bool r.pb, .bool r.oc, .int .i64 r.ma, .int .i64 r.sm, .int .i64 r.mf, .int .i64 r.ms]] w fun e w' => e = .returned (.bool (freshV f a q r)) ∧ Below w.heap.size w w' := by
  have HV := box (fr_b23 (f := f) h)
  have hf1 : ¬ f < 0 := by have := sec_yes23 hf; omega
  have hf2 : ¬ 2147483647 < f := by have := sec_yes23 hf; omega
  have ha1 : ¬ a < 0 := by have := sec_yes23 ha; omega
  have ha2 : ¬ 2147483647 < a := by have := sec_yes23 ha; omega
  clear hf ha
  obtain ⟨qns, qnc, qmr, qpr, qpv, qpb, qoc, qma, qsm, qmf, qms⟩ := q
  obtain ⟨rns, rnc, rmr, rpr, rpv, rpb, roc, rma, rsm, rmf, rms⟩ := r
  cases qnc
  · cases rnc
    · have h2 : qma ≠ -1 ∧ qma < a := by simpa using h
      have i1 : (qma != -1) = true := by rw [bne_iff_ne]; exact h2.1
      have i2 : qma < a := h2.2
      clear h h2
      go_enter Tryd.func18, Tryd.ntmps18
      go_wp2
      go_ret
      exact ⟨ret_bool HV.out.symm, two_below23 _ _ _⟩
    · clear h
      go_enter Tryd.func18, Tryd.ntmps18
      go_wp2
      go_ret
      exact ⟨ret_bool HV.out.symm, two_below23 _ _ _⟩
  · clear h
    go_enter Tryd.func18, Tryd.ntmps18
    go_wp2
    go_ret
    exact ⟨ret_bool HV.out.symm, two_below23 _ _ _⟩
theorem rFreshC (f a : Int) (q r : CT) (w : World) (hf : secB f = true) (ha : secB a = true) (h : ¬ (q.nc = true ∨ r.nc = true ∨ (q.ma ≠ -1 ∧ q.ma < a))) (hl : a < f) :
    Calls Tryd.prog 18 #[.int .i64 f, .int .i64 a, .agg #[.bool q.ns, .bool q.nc, .bool q.mr, .bool q.pr, .bool q.pv, .bool q.pb, .bool q.oc, .int .i64 q.ma, .int .i64 q.sm, .int .i64 q.mf, .int .i64 q.ms], .agg #[.bool r.ns, .bool r.nc, .bool r.mr, .bool r.pr, .bool r.pv, .bool r.pb, .bool r.oc, .int .i64 r.ma, .int .i64 r.sm, .int .i64 r.mf, .int .i64 r.ms]] w fun e w' => e = .returned (.bool (freshV f a q r)) ∧ Below w.heap.size w w' := by
  have HV := box (fr_c23 hf ha h hl)
  have hf1 : ¬ f < 0 := by have := sec_yes23 hf; omega
  have hf2 : ¬ 2147483647 < f := by have := sec_yes23 hf; omega
  have ha1 : ¬ a < 0 := by have := sec_yes23 ha; omega
  have ha2 : ¬ 2147483647 < a := by have := sec_yes23 ha; omega
  clear hf ha
  obtain ⟨qns, qnc, qmr, qpr, qpv, qpb, qoc, qma, qsm, qmf, qms⟩ := q
  obtain ⟨rns, rnc, rmr, rpr, rpv, rpb, roc, rma, rsm, rmf, rms⟩ := r
  simp only [not_or, not_and, Bool.not_eq_true, Int.not_lt, ne_eq] at h
  obtain ⟨rfl, rfl, hm⟩ := h
  by_cases e : qma = -1
  · subst e
    clear hm
    by_cases e1 : qmf = -1
    · subst e1
      go_enter Tryd.func18, Tryd.ntmps18
      go_wp2
      go_ret
      exact ⟨ret_bool (by rw [HV.out]; simp), two_below23 _ _ _⟩
    · have i4 : (qmf == -1) = false := by rw [beq_eq_false_iff_ne]; exact e1
      by_cases e2 : qmf ≤ f - a
      · have HZ : Box (decide (qmf = -1 ∨ qmf ≤ f - a) = true) := box (by simp [e2])
        clear e1
        go_enter Tryd.func18, Tryd.ntmps18
        go_wp2
        go_ret
        exact ⟨ret_bool (by rw [HV.out, HZ.out]), two_below23 _ _ _⟩
      · have HZ : Box (decide (qmf = -1 ∨ qmf ≤ f - a) = false) := box (by simp [e1]; omega)
        clear e1
        go_enter Tryd.func18, Tryd.ntmps18
        go_wp2
        go_ret
        exact ⟨ret_bool (by rw [HV.out, HZ.out]), two_below23 _ _ _⟩
  · have i1 : (qma != -1) = true := by rw [bne_iff_ne]; exact e
    have i2 : a ≤ qma := hm e
    have i3 : ¬ qma < a := by omega
    clear hm e
    by_cases e1 : qmf = -1
    · subst e1
      go_enter Tryd.func18, Tryd.ntmps18
      go_wp2
      go_ret
      exact ⟨ret_bool (by rw [HV.out]; simp), two_below23 _ _ _⟩
    · have i4 : (qmf == -1) = false := by rw [beq_eq_false_iff_ne]; exact e1
      by_cases e2 : qmf ≤ f - a
      · have HZ : Box (decide (qmf = -1 ∨ qmf ≤ f - a) = true) := box (by simp [e2])
        clear e1
        go_enter Tryd.func18, Tryd.ntmps18
        go_wp2
        go_ret
        exact ⟨ret_bool (by rw [HV.out, HZ.out]), two_below23 _ _ _⟩
      · have HZ : Box (decide (qmf = -1 ∨ qmf ≤ f - a) = false) := box (by simp [e1]; omega)
        clear e1
        go_enter Tryd.func18, Tryd.ntmps18
        go_wp2
        go_ret
        exact ⟨ret_bool (by rw [HV.out, HZ.out]), two_below23 _ _ _⟩
set_option maxHeartbeats 4000000 in
theorem rFreshD (f a : Int) (q r : CT) (w : World) (hf : secB f = true) (ha : secB a = true) (h : ¬ (q.nc = true ∨ r.nc = true ∨ (q.ma ≠ -1 ∧ q.ma < a))) (hl : ¬ a < f) :
    Calls Tryd.prog 18 #[.int .i64 f, .int .i64 a, .agg #[.bool q.ns, .bool q.nc, .bool q.mr, .bool q.pr, .bool q.pv, .bool q.pb, .bool q.oc, .int .i64 q.ma, .int .i64 q.sm, .int .i64 q.mf, .int .i64 q.ms], .agg #[.bool r.ns, .bool r.nc, .bool r.mr, .bool r.pr, .bool r.pv, .bool r.pb, .bool r.oc, .int .i64 r.ma, .int .i64 r.sm, .int .i64 r.mf, .int .i64 r.ms]] w fun e w' => e = .returned (.bool (freshV f a q r)) ∧ Below w.heap.size w w' := by
  have HV := box (fr_d23 hf ha h hl)
  have hf1 : ¬ f < 0 := by have := sec_yes23 hf; omega
  have hf2 : ¬ 2147483647 < f := by have := sec_yes23 hf; omega
  have ha1 : ¬ a < 0 := by have := sec_yes23 ha; omega
  have ha2 : ¬ 2147483647 < a := by have := sec_yes23 ha; omega
  clear hf ha
  obtain ⟨qns, qnc, qmr, qpr, qpv, qpb, qoc, qma, qsm, qmf, qms⟩ := q
  obtain ⟨rns, rnc, rmr, rpr, rpv, rpb, roc, rma, rsm, rmf, rms⟩ := r
  simp only [not_or, not_and, Bool.not_eq_true, Int.not_lt, ne_eq] at h
  obtain ⟨rfl, rfl, hm⟩ := h
  by_cases e : qma = -1
  · subst e
    clear hm
    cases rmr
    · cases rpr
      · by_cases e1 : rsm = -1
        · subst e1
          by_cases e2 : qmf = -1
          · subst e2
            by_cases e3 : qms = -1
            · subst e3
              go_enter Tryd.func18, Tryd.ntmps18
              go_wp2
              go_ret
              exact ⟨ret_bool (by rw [HV.out]; simp [stlV]), two_below23 _ _ _⟩
            · have i6 : (qms != -1) = true := by rw [bne_iff_ne]; exact e3
              have E3 := box e3
              clear e3
              by_cases e4 : a - f ≤ qms
              · have i7 : ¬ qms < a - f := by omega
                go_enter Tryd.func18, Tryd.ntmps18
                go_wp2
                go_ret
                exact ⟨ret_bool (by rw [HV.out]; simp [stlV, E3.out, e4]), two_below23 _ _ _⟩
              · go_enter Tryd.func18, Tryd.ntmps18
                go_wp2
                go_ret
                exact ⟨ret_bool (by rw [HV.out]; simp [stlV, E3.out]; omega), two_below23 _ _ _⟩
          · have i6 : (qmf != -1) = true := by rw [bne_iff_ne]; exact e2
            have E2 := box e2
            clear e2
            go_enter Tryd.func18, Tryd.ntmps18
            go_wp2
            go_ret
            exact ⟨ret_bool (by rw [HV.out]; simp [stlV, E2.out]), two_below23 _ _ _⟩
        · have i6 : (rsm != -1) = true := by rw [bne_iff_ne]; exact e1
          have E1 := box e1
          clear e1
          go_enter Tryd.func18, Tryd.ntmps18
          go_wp2
          go_ret
          exact ⟨ret_bool (by rw [HV.out]; simp [stlV, E1.out]), two_below23 _ _ _⟩
      · go_enter Tryd.func18, Tryd.ntmps18
        go_wp2
        go_ret
        exact ⟨ret_bool (by rw [HV.out]; simp [stlV]), two_below23 _ _ _⟩
    · go_enter Tryd.func18, Tryd.ntmps18
      go_wp2
      go_ret
      exact ⟨ret_bool (by rw [HV.out]; simp [stlV]), two_below23 _ _ _⟩
  · have i1 : (qma != -1) = true := by rw [bne_iff_ne]; exact e
    have i2 : a ≤ qma := hm e
    have i3 : ¬ qma < a := by omega
    clear hm e
    cases rmr
    · cases rpr
      · by_cases e1 : rsm = -1
        · subst e1
          by_cases e2 : qmf = -1
          · subst e2
            by_cases e3 : qms = -1
            · subst e3
              go_enter Tryd.func18, Tryd.ntmps18
              go_wp2
              go_ret
              exact ⟨ret_bool (by rw [HV.out]; simp [stlV]), two_below23 _ _ _⟩
            · have i6 : (qms != -1) = true := by rw [bne_iff_ne]; exact e3
              have E3 := box e3
              clear e3
              by_cases e4 : a - f ≤ qms
              · have i7 : ¬ qms < a - f := by omega
                go_enter Tryd.func18, Tryd.ntmps18
                go_wp2
                go_ret
                exact ⟨ret_bool (by rw [HV.out]; simp [stlV, E3.out, e4]), two_below23 _ _ _⟩
              · go_enter Tryd.func18, Tryd.ntmps18
                go_wp2
                go_ret
                exact ⟨ret_bool (by rw [HV.out]; simp [stlV, E3.out]; omega), two_below23 _ _ _⟩
          · have i6 : (qmf != -1) = true := by rw [bne_iff_ne]; exact e2
            have E2 := box e2
            clear e2
            go_enter Tryd.func18, Tryd.ntmps18
            go_wp2
            go_ret
            exact ⟨ret_bool (by rw [HV.out]; simp [stlV, E2.out]), two_below23 _ _ _⟩
        · have i6 : (rsm != -1) = true := by rw [bne_iff_ne]; exact e1
          have E1 := box e1
          clear e1
          go_enter Tryd.func18, Tryd.ntmps18
          go_wp2
          go_ret
          exact ⟨ret_bool (by rw [HV.out]; simp [stlV, E1.out]), two_below23 _ _ _⟩
      · go_enter Tryd.func18, Tryd.ntmps18
        go_wp2
        go_ret
        exact ⟨ret_bool (by rw [HV.out]; simp [stlV]), two_below23 _ _ _⟩
    · go_enter Tryd.func18, Tryd.ntmps18
      go_wp2
      go_ret
      exact ⟨ret_bool (by rw [HV.out]; simp [stlV]), two_below23 _ _ _⟩
theorem rFresh_any (f a : Int) (q r : CT) (w : World) :
    Calls Tryd.prog 18 #[.int .i64 f, .int .i64 a, .agg #[.bool q.ns, .bool q.nc, .bool q.mr, .bool q.pr, .bool q.pv, .bool q.pb, .bool q.oc, .int .i64 q.ma, .int .i64 q.sm, .int .i64 q.mf, .int .i64 q.ms], .agg #[.bool r.ns, .bool r.nc, .bool r.mr, .bool r.pr, .bool r.pv, .bool r.pb, .bool r.oc, .int .i64 r.ma, .int .i64 r.sm, .int .i64 r.mf, .int .i64 r.ms]] w fun e w' => e = .returned (.bool (freshV f a q r)) ∧ Below w.heap.size w w' := by
  by_cases h1 : secB f = false ∨ secB a = false
  · exact rFreshA f a q r w h1
  · simp only [not_or, Bool.not_eq_false] at h1
    by_cases h2 : q.nc = true ∨ r.nc = true ∨ (q.ma ≠ -1 ∧ q.ma < a)
    · exact rFreshB f a q r w h1.1 h1.2 h2
    · by_cases hl : a < f
      · exact rFreshC f a q r w h1.1 h1.2 h2 hl
      · exact rFreshD f a q r w h1.1 h1.2 h2 hl
end
end Go.Proofs.YteemoibikkmlbaaDoor.Asc
