/- Merged texts: FrsMine4. -/
import Derived.Test.YteemoibikkmlbaaDoorZs08
set_option linter.unusedVariables false
set_option linter.unusedSimpArgs false
set_option maxRecDepth 100000
namespace Go.Proofs.YteemoibikkmlbaaDoor.Asc
section
open Go.RowKit
/-- may it be used though it is stale? -/
def stlV (q r : CT) : Bool := !(r.mr || r.pr || decide (r.sm ≠ -1)) && (decide (q.mf = -1) && decide (q.ms ≠ -1))
theorem two_below23 (w : World) (A B : Obj) : Below w.heap.size w ((w.alloc A).alloc B) := (below_new w A).alloc (below_new w A).size B
theorem mStale_any (q r : CT) (w : World) :
    Calls Tryd.prog 29 #[.agg #[.bool q.ns, .bool q.nc, .bool q.mr, .bool q.pr, .bool q.pv, .bool q.pb, .bool q.oc, .int .i64 q.ma, .int .i64 q.sm, .int .i64 q.mf, .int .i64 q.ms], .agg #[.bool r.ns, .bool r.nc, .bool r.mr, .bool r.pr, .bool r.pv, .bool r.pb, .bool r.oc, .int .i64 r.ma, .int .i64 r.sm, .int .i64 r.mf, .int .i64 r.ms]] w fun e w' => e = .returned (.bool (stlV q r)) ∧ Below w.heap.size w w' := by
  obtain ⟨qns, qnc, qmr, qpr, qpv, qpb, qoc, qma, qsm, qmf, qms⟩ := q
  obtain ⟨rns, rnc, rmr, rpr, rpv, rpb, roc, rma, rsm, rmf, rms⟩ := r
  by_cases hr : rmr = true ∨ rpr = true ∨ rsm ≠ -1
  · have HZ : stlV ⟨qns, qnc, qmr, qpr, qpv, qpb, qoc, qma, qsm, qmf, qms⟩ ⟨rns, rnc, rmr, rpr, rpv, rpb, roc, rma, rsm, rmf, rms⟩ = false := by
      unfold stlV
      rcases hr with h | h | h <;> simp [h]
    rw [HZ]
    clear HZ
    cases rmr
    · cases rpr
      · have i : (rsm != -1) = true := by rw [bne_iff_ne]; simpa using hr
        clear hr
        go_enter Tryd.func29, Tryd.ntmps29
        go_wp2
        go_ret
        exact ⟨rfl, two_below23 _ _ _⟩
      · clear hr
        go_enter Tryd.func29, Tryd.ntmps29
        go_wp2
        go_ret
        exact ⟨rfl, two_below23 _ _ _⟩
    · clear hr
      go_enter Tryd.func29, Tryd.ntmps29
      go_wp2
      go_ret
      exact ⟨rfl, two_below23 _ _ _⟩
  · simp only [not_or, Bool.not_eq_true, ne_eq, Classical.not_not] at hr
    obtain ⟨rfl, rfl, rfl⟩ := hr
    by_cases h1 : qmf = -1
    · subst h1
      by_cases h2 : qms = -1
      · subst h2
        go_enter Tryd.func29, Tryd.ntmps29
        go_wp2
        go_ret
        exact ⟨ret_bool (by simp [stlV]), two_below23 _ _ _⟩
      · have i : (qms != -1) = true := by rw [bne_iff_ne]; exact h2
        have HZ : Box (stlV ⟨qns, qnc, qmr, qpr, qpv, qpb, qoc, qma, qsm, -1, qms⟩ ⟨rns, rnc, false, false, rpv, rpb, roc, rma, -1, rmf, rms⟩ = true) := box (by simp [stlV, h2])
        clear h2
        go_enter Tryd.func29, Tryd.ntmps29
        go_wp2
        go_ret
        exact ⟨ret_bool HZ.out.symm, two_below23 _ _ _⟩
    · have i : (qmf == -1) = false := by rw [beq_eq_false_iff_ne]; exact h1
      have HZ : Box (stlV ⟨qns, qnc, qmr, qpr, qpv, qpb, qoc, qma, qsm, qmf, qms⟩ ⟨rns, rnc, false, false, rpv, rpb, roc, rma, -1, rmf, rms⟩ = false) := box (by simp [stlV, h1])
      clear h1
      go_enter Tryd.func29, Tryd.ntmps29
      go_wp2
      go_ret
      exact ⟨ret_bool HZ.out.symm, two_below23 _ _ _⟩
theorem fr_a23 {f a : Int} {q r : CT} (h : secB f = false ∨ secB a = false) : freshV f a q r = false := by unfold freshV; rw [if_pos h]
theorem fr_b23 {f a : Int} {q r : CT} (h : q.nc = true ∨ r.nc = true ∨ (q.ma ≠ -1 ∧ q.ma < a)) : freshV f a q r = false := by
  by_cases g : secB f = false ∨ secB a = false
  · exact fr_a23 g
  · unfold freshV
    rw [if_neg g, if_pos h]
theorem fr_c23 {f a : Int} {q r : CT} (hf : secB f = true) (ha : secB a = true) (h : ¬ (q.nc = true ∨ r.nc = true ∨ (q.ma ≠ -1 ∧ q.ma < a))) (hl : a < f) : freshV f a q r = decide (q.mf = -1 ∨ q.mf ≤ f - a) := by
  unfold freshV
  rw [if_neg (by simp [hf, ha]), if_neg h, if_pos hl]
theorem fr_d23 {f a : Int} {q r : CT} (hf : secB f = true) (ha : secB a = true) (h : ¬ (q.nc = true ∨ r.nc = true ∨ (q.ma ≠ -1 ∧ q.ma < a))) (hl : ¬ a < f) : freshV f a q r = (stlV q r && decide (a - f ≤ q.ms)) := by
  unfold freshV
  rw [if_neg (by simp [hf, ha]), if_neg h, if_neg hl]
  unfold stlV
  cases r.mr <;> cases r.pr <;> by_cases h1 : r.sm = -1 <;> by_cases h2 : q.mf = -1 <;> by_cases h3 : q.ms = -1 <;> simp [h1, h2, h3]
theorem sec_yes23 {n : Int} (h : secB n = true) : 0 ≤ n ∧ n ≤ 2147483647 := by
  unfold secB at h
  simpa using h
theorem mStale_is {q r : CT} {b : Bool} {w : World} (h : Box (stlV q r = b)) :
    Calls Tryd.prog 29 #[.agg #[.bool q.ns, .bool q.nc, .bool q.mr, .bool q.pr, .bool q.pv, .bool q.pb, .bool q.oc, .int .i64 q.ma, .int .i64 q.sm, .int .i64 q.mf, .int .i64 q.ms], .agg #[.bool r.ns, .bool r.nc, .bool r.mr, .bool r.pr, .bool r.pv, .bool r.pb, .bool r.oc, .int .i64 r.ma, .int .i64 r.sm, .int .i64 r.mf, .int .i64 r.ms]] w fun e w' => e = .returned (.bool b) ∧ Below w.heap.size w w' :=
  (mStale_any q r w).mono fun e w' ⟨h1, h2⟩ => ⟨by rw [h1, h.out], h2⟩
theorem mSec_is {n : Int} {b : Bool} {w : World} (h : Box (secB n = b)) :
    Calls Tryd.prog 28 #[.int .i64 n] w fun e w' => e = .returned (.bool b) ∧ w = w' :=
  (mSec_any n w).mono fun e w' ⟨h1, h2⟩ => ⟨by rw [h1, h.out], h2⟩
theorem mFreshA (f a : Int) (q r : CT) (w : World) (h : secB f = false ∨ secB a = false) :
    Calls Tryd.prog 17 #[.int .i64 f, .int .i64 a, .agg #[.bool q.ns, .bool q.nc, .bool q.mr, .bool q.pr, .bool q.pv, .bool q.pb, .bool q.oc, .int .i64 q.ma, .int .i64 q.sm, .int .i64 q.mf, .int .i64 q.ms], .agg #[.bool r.ns, .bool r.nc, .bool r.mr, .bool r.pr, .bool r.pv, .bool r.pb, .bool r.oc, .int .i64 r.ma, .int .i64 r.sm, .int .i64 r.mf, .int .i64 r.ms]] w fun e w' => e = .returned (.bool (freshV f a q r)) ∧ Below w.heap.size w w' := by
  have HV := box (fr_a23 (q := q) (r := r) h)
  obtain ⟨qns, qnc, qmr, qpr, qpv, qpb, qoc, qma, qsm, qmf, qms⟩ := q
  obtain ⟨rns, rnc, rmr, rpr, rpv, rpb, roc, rma, rsm, rmf, rms⟩ := r
  by_cases hf : secB f = true
  · have ha : secB a = false := by rcases h with h | h; (rw [hf] at h; cases h); exact h
    have HF := box hf
    have HA := box ha
    clear h hf ha
    go_enter Tryd.func17, Tryd.ntmps17
    go_wp2_with fail
    refine (mSec_is HF).mono ?_; rintro e w1 ⟨rfl, rfl⟩
    go_wp2_with fail
    refine (mSec_is HA).mono ?_; rintro e w2 ⟨rfl, rfl⟩
    go_wp2
    go_ret
    exact ⟨ret_bool HV.out.symm, two_below23 _ _ _⟩
  · have hf' : secB f = false := by simpa using hf
    have HF := box hf'
    clear h hf hf'
    go_enter Tryd.func17, Tryd.ntmps17
    go_wp2_with fail
    refine (mSec_is HF).mono ?_; rintro e w1 ⟨rfl, rfl⟩
    go_wp2
    go_ret
    exact ⟨ret_bool HV.out.symm, two_below23 _ _ _⟩
theorem mFreshB (f a : Int) (q r : CT) (w : World) (hf : secB f = true) (ha : secB a = true) (h : q.nc = true ∨ r.nc = true ∨ (q.ma ≠ -1 ∧ q.ma < a)) :
    Calls Tryd.prog 17 #[.int .i64 f, .int .i64 a, .agg #[.bool q.ns, .bool q.nc, .bool q.mr, .bool q.pr, .bool q.pv, .bool q.pb, .bool q.oc, .int .i64 q.ma, .int .i64 q.sm, .int .i64 q.mf, .int .i64 q.ms], .agg #[.bool r.ns, .bool r.nc, .bool r.mr, .bool r.pr, .bool r.pv, .bool r.pb, .bool r.oc, .int .i64 r.ma, .int .i64 r.sm, .int .i64 r.mf, .int .i64 r.ms]] w fun e w' => e = .returned (.bool (freshV f a q r)) ∧ Below w.heap.size w w' := by
  have HV := box (fr_b23 (f := f) h)
  have HF := box hf
  have HA := box ha
  clear hf ha
  obtain ⟨qns, qnc, qmr, qpr, qpv, qpb, qoc, qma, qsm, qmf, qms⟩ := q
  obtain ⟨rns, rnc, rmr, rpr, rpv, rpb, roc, rma, rsm, rmf, rms⟩ := r
  cases qnc
  · cases rnc
    · have h2 : qma ≠ -1 ∧ qma < a := by simpa using h
      have i1 : (qma != -1) = true := by rw [bne_iff_ne]; exact h2.1
      have i2 : qma < a := h2.2
      clear h h2
      go_enter Tryd.func17, Tryd.ntmps17
      go_wp2_with fail
      refine (mSec_is HF).mono ?_; rintro e w1 ⟨rfl, rfl⟩
      go_wp2_with fail
      refine (mSec_is HA).mono ?_; rintro e w2 ⟨rfl, rfl⟩
      go_wp2
      go_ret
      exact ⟨ret_bool HV.out.symm, two_below23 _ _ _⟩
    · clear h
      go_enter Tryd.func17, Tryd.ntmps17
      go_wp2_with fail
      refine (mSec_is HF).mono ?_; rintro e w1 ⟨rfl, rfl⟩
      go_wp2_with fail
      refine (mSec_is HA).mono ?_; rintro e w2 ⟨rfl, rfl⟩
      go_wp2
      go_ret
      exact ⟨ret_bool HV.out.symm, two_below23 _ _ _⟩
  · clear h
    go_enter Tryd.func17, Tryd.ntmps17
    go_wp2_with fail
    refine (mSec_is HF).mono ?_; rintro e w1 ⟨rfl, rfl⟩
    go_wp2_with fail
    refine (mSec_is HA).mono ?_; rintro e w2 ⟨rfl, rfl⟩
    go_wp2
    go_ret
    exact ⟨ret_bool HV.out.symm, two_below23 _ _ _⟩
theorem mFreshC (f a : Int) (q r : CT) (w : World) (hf : secB f = true) (ha : secB a = true) (h : ¬ (q.nc = true ∨ r.nc = true ∨ (q.ma ≠ -1 ∧ q.ma < a))) (hl : a < f) :
    Calls Tryd.prog 17 #[.int .i64 f, .int .i64 a, .agg #[.bool q.ns, .bool q.nc, .bool q.mr, .bool q.pr, .bool q.pv, .bool q.pb, .bool q.oc, .int .i64 q.ma, .int .i64 q.sm, .int .i64 q.mf, .int .i64 q.ms], .agg #[.bool r.ns, .bool r.nc, .bool r.mr, .bool r.pr, .bool r.pv, .bool r.pb, .bool r.oc, .int .i64 r.ma, .int .i64 r.sm, .int .i64 r.mf, .int .i64 r.ms]] w fun e w' => e = .returned (.bool (freshV f a q r)) ∧ Below w.heap.size w w' := by
  have HV := box (fr_c23 hf ha h hl)
  have HF := box hf
  have HA := box ha
  obtain ⟨hf0, hf1⟩ := sec_yes23 hf
  obtain ⟨ha0, ha1⟩ := sec_yes23 ha
  clear hf ha
  obtain ⟨qns, qnc, qmr, qpr, qpv, qpb, qoc, qma, qsm, qmf, qms⟩ := q
  obtain ⟨rns, rnc, rmr, rpr, rpv, rpb, roc, rma, rsm, rmf, rms⟩ := r
  simp only [not_or, not_and, Bool.not_eq_true, Int.not_lt, ne_eq] at h
  obtain ⟨rfl, rfl, hm⟩ := h
  by_cases e : qma = -1
  · subst e
    clear hm
    by_cases e1 : qmf = -1
    · subst e1
      go_enter Tryd.func17, Tryd.ntmps17
      go_wp2_with fail
      refine (mSec_is HF).mono ?_; rintro e w1 ⟨rfl, rfl⟩
      go_wp2_with fail
      refine (mSec_is HA).mono ?_; rintro e w2 ⟨rfl, rfl⟩
      go_wp2
      go_ret
      exact ⟨ret_bool (by rw [HV.out]; simp), two_below23 _ _ _⟩
    · have i4 : (qmf == -1) = false := by rw [beq_eq_false_iff_ne]; exact e1
      by_cases e2 : qmf ≤ f - a
      · have HZ : Box (decide (qmf = -1 ∨ qmf ≤ f - a) = true) := box (by simp [e2])
        clear e1
        go_enter Tryd.func17, Tryd.ntmps17
        go_wp2_with fail
        refine (mSec_is HF).mono ?_; rintro e w1 ⟨rfl, rfl⟩
        go_wp2_with fail
        refine (mSec_is HA).mono ?_; rintro e w2 ⟨rfl, rfl⟩
        go_wp2
        go_ret
        exact ⟨ret_bool (by rw [HV.out, HZ.out]), two_below23 _ _ _⟩
      · have HZ : Box (decide (qmf = -1 ∨ qmf ≤ f - a) = false) := box (by simp [e1]; omega)
        clear e1
        go_enter Tryd.func17, Tryd.ntmps17
        go_wp2_with fail
        refine (mSec_is HF).mono ?_; rintro e w1 ⟨rfl, rfl⟩
        go_wp2_with fail
        refine (mSec_is HA).mono ?_; rintro e w2 ⟨rfl, rfl⟩
        go_wp2
        go_ret
        exact ⟨ret_bool (by rw [HV.out, HZ.out]; simpa using e2), two_below23 _ _ _⟩
  · have i1 : (qma != -1) = true := by rw [bne_iff_ne]; exact e
    have i2 : a ≤ qma := hm e
    have i3 : ¬ qma < a := by omega
    clear hm e
    by_cases e1 : qmf = -1
    · subst e1
      go_enter Tryd.func17, Tryd.ntmps17
      go_wp2_with fail
      refine (mSec_is HF).mono ?_; rintro e w1 ⟨rfl, rfl⟩
      go_wp2_with fail
      refine (mSec_is HA).mono ?_; rintro e w2 ⟨rfl, rfl⟩
      go_wp2
      go_ret
      exact ⟨ret_bool (by rw [HV.out]; simp), two_below23 _ _ _⟩
    · have i4 : (qmf == -1) = false := by rw [beq_eq_false_iff_ne]; exact e1
      by_cases e2 : qmf ≤ f - a
      · have HZ : Box (decide (qmf = -1 ∨ qmf ≤ f - a) = true) := box (by simp [e2])
        clear e1
        go_enter Tryd.func17, Tryd.ntmps17
        go_wp2_with fail
        refine (mSec_is HF).mono ?_; rintro e w1 ⟨rfl, rfl⟩
        go_wp2_with fail
        refine (mSec_is HA).mono ?_; rintro e w2 ⟨rfl, rfl⟩
        go_wp2
        go_ret
        exact ⟨ret_bool (by rw [HV.out, HZ.out]), two_below23 _ _ _⟩
      · have HZ : Box (decide (qmf = -1 ∨ qmf ≤ f - a) = false) := box (by simp [e1]; omega)
        clear e1
        go_enter Tryd.func17, Tryd.ntmps17
        go_wp2_with fail
        refine (mSec_is HF).mono ?_; rintro e w1 ⟨rfl, rfl⟩
        go_wp2_with fail
        refine (mSec_is HA).mono ?_; rintro e w2 ⟨rfl, rfl⟩
        go_wp2
        go_ret
        exact ⟨ret_bool (by rw [HV.out, HZ.out]; simpa using e2), two_below23 _ _ _⟩
theorem mFreshD (f a : Int) (q r : CT) (w : World) (hf : secB f = true) (ha : secB a = true) (h : ¬ (q.nc = true ∨ r.nc = true ∨ (q.ma ≠ -1 ∧ q.ma < a))) (hl : ¬ a < f) :
    Calls Tryd.prog 17 #[.int .i64 f, .int .i64 a, .agg #[.bool q.ns, .bool q.nc, .bool q.mr, .bool q.pr, .bool q.pv, .bool q.pb, .bool q.oc, .int .i64 q.ma, .int .i64 q.sm, .int .i64 q.mf, .int .i64 q.ms], .agg #[.bool r.ns, .bool r.nc, .bool r.mr, .bool r.pr, .bool r.pv, .bool r.pb, .bool r.oc, .int .i64 r.ma, .int .i64 r.sm, .int .i64 r.mf, .int .i64 r.ms]] w fun e w' => e = .returned (.bool (freshV f a q r)) ∧ Below w.heap.size w w' := by
  have HV := box (fr_d23 hf ha h hl)
  have HF := box hf
  have HA := box ha
  obtain ⟨hf0, hf1⟩ := sec_yes23 hf
  obtain ⟨ha0, ha1⟩ := sec_yes23 ha
  clear hf ha
  obtain ⟨b, hb⟩ : ∃ b, stlV q r = b := ⟨_, rfl⟩
  rw [hb] at HV
  have HB := box hb
  clear hb
  obtain ⟨qns, qnc, qmr, qpr, qpv, qpb, qoc, qma, qsm, qmf, qms⟩ := q
  obtain ⟨rns, rnc, rmr, rpr, rpv, rpb, roc, rma, rsm, rmf, rms⟩ := r
  simp only [not_or, not_and, Bool.not_eq_true, Int.not_lt, ne_eq] at h
  obtain ⟨rfl, rfl, hm⟩ := h
  by_cases e : qma = -1
  · subst e
    clear hm
    cases b
    · go_enter Tryd.func17, Tryd.ntmps17
      go_wp2_with fail
      refine (mSec_is HF).mono ?_; rintro e w1 ⟨rfl, rfl⟩
      go_wp2_with fail
      refine (mSec_is HA).mono ?_; rintro e w2 ⟨rfl, rfl⟩
      go_wp2_with fail
      refine (mStale_is (q := ⟨qns, false, qmr, qpr, qpv, qpb, qoc, -1, qsm, qmf, qms⟩) (r := ⟨rns, false, rmr, rpr, rpv, rpb, roc, rma, rsm, rmf, rms⟩) HB).mono ?_; rintro e w3 ⟨rfl, hb3⟩
      have B3 := box ((two_below23 _ _ _).trans (hb3.mono (two_below23 _ _ _).size))
      clear hb3
      go_wp2
      go_ret
      exact ⟨ret_bool (by rw [HV.out]; rfl), B3.out⟩
    · by_cases e2 : a - f ≤ qms
      · have i5 : ¬ qms < a - f := by omega
        go_enter Tryd.func17, Tryd.ntmps17
        go_wp2_with fail
        refine (mSec_is HF).mono ?_; rintro e w1 ⟨rfl, rfl⟩
        go_wp2_with fail
        refine (mSec_is HA).mono ?_; rintro e w2 ⟨rfl, rfl⟩
        go_wp2_with fail
        refine (mStale_is (q := ⟨qns, false, qmr, qpr, qpv, qpb, qoc, -1, qsm, qmf, qms⟩) (r := ⟨rns, false, rmr, rpr, rpv, rpb, roc, rma, rsm, rmf, rms⟩) HB).mono ?_; rintro e w3 ⟨rfl, hb3⟩
        have B3 := box ((two_below23 _ _ _).trans (hb3.mono (two_below23 _ _ _).size))
        have c3 : w3.cell? ⟨w.heap.size, 10, none⟩ = some (.int .i64 qms) := by
          rw [hb3.cell (by simp; omega)]
          exact ((Ct.new ⟨qns, false, qmr, qpr, qpv, qpb, qoc, -1, qsm, qmf, qms⟩ w 31).next (below_new _ _)).1.2.2.2.2.2.2.2.2.2.2
        clear hb3
        go_wp2
        go_ret
        exact ⟨ret_bool (by rw [HV.out]; simp [e2]), B3.out⟩
      · go_enter Tryd.func17, Tryd.ntmps17
        go_wp2_with fail
        refine (mSec_is HF).mono ?_; rintro e w1 ⟨rfl, rfl⟩
        go_wp2_with fail
        refine (mSec_is HA).mono ?_; rintro e w2 ⟨rfl, rfl⟩
        go_wp2_with fail
        refine (mStale_is (q := ⟨qns, false, qmr, qpr, qpv, qpb, qoc, -1, qsm, qmf, qms⟩) (r := ⟨rns, false, rmr, rpr, rpv, rpb, roc, rma, rsm, rmf, rms⟩) HB).mono ?_; rintro e w3 ⟨rfl, hb3⟩
        have B3 := box ((two_below23 _ _ _).trans (hb3.mono (two_below23 _ _ _).size))
        have c3 : w3.cell? ⟨w.heap.size, 10, none⟩ = some (.int .i64 qms) := by
          rw [hb3.cell (by simp; omega)]
          exact ((Ct.new ⟨qns, false, qmr, qpr, qpv, qpb, qoc, -1, qsm, qmf, qms⟩ w 31).next (below_new _ _)).1.2.2.2.2.2.2.2.2.2.2
        clear hb3
        go_wp2
        go_ret
        exact ⟨ret_bool (by rw [HV.out]; simp), B3.out⟩
  · have i1 : (qma != -1) = true := by rw [bne_iff_ne]; exact e
    have i2 : a ≤ qma := hm e
    have i3 : ¬ qma < a := by omega
    clear hm e
    cases b
    · go_enter Tryd.func17, Tryd.ntmps17
      go_wp2_with fail
      refine (mSec_is HF).mono ?_; rintro e w1 ⟨rfl, rfl⟩
      go_wp2_with fail
      refine (mSec_is HA).mono ?_; rintro e w2 ⟨rfl, rfl⟩
      go_wp2_with fail
      refine (mStale_is (q := ⟨qns, false, qmr, qpr, qpv, qpb, qoc, qma, qsm, qmf, qms⟩) (r := ⟨rns, false, rmr, rpr, rpv, rpb, roc, rma, rsm, rmf, rms⟩) HB).mono ?_; rintro e w3 ⟨rfl, hb3⟩
      have B3 := box ((two_below23 _ _ _).trans (hb3.mono (two_below23 _ _ _).size))
      clear hb3
      go_wp2
      go_ret
      exact ⟨ret_bool (by rw [HV.out]; rfl), B3.out⟩
    · by_cases e2 : a - f ≤ qms
      · have i5 : ¬ qms < a - f := by omega
        go_enter Tryd.func17, Tryd.ntmps17
        go_wp2_with fail
        refine (mSec_is HF).mono ?_; rintro e w1 ⟨rfl, rfl⟩
        go_wp2_with fail
        refine (mSec_is HA).mono ?_; rintro e w2 ⟨rfl, rfl⟩
        go_wp2_with fail
        refine (mStale_is (q := ⟨qns, false, qmr, qpr, qpv, qpb, qoc, qma, qsm, qmf, qms⟩) (r := ⟨rns, false, rmr, rpr, rpv, rpb, roc, rma, rsm, rmf, rms⟩) HB).mono ?_; rintro e w3 ⟨rfl, hb3⟩
        have B3 := box ((two_below23 _ _ _).trans (hb3.mono (two_below23 _ _ _).size))
        have c3 : w3.cell? ⟨w.heap.size, 10, none⟩ = some (.int .i64 qms) := by
          rw [hb3.cell (by simp; omega)]
          exact ((Ct.new ⟨qns, false, qmr, qpr, qpv, qpb, qoc, qma, qsm, qmf, qms⟩ w 31).next (below_new _ _)).1.2.2.2.2.2.2.2.2.2.2
        clear hb3
        go_wp2
        go_ret
        exact ⟨ret_bool (by rw [HV.out]; simp [e2]), B3.out⟩
      · go_enter Tryd.func17, Tryd.ntmps17
        go_wp2_with fail
        refine (mSec_is HF).mono ?_; rintro e w1 ⟨rfl, rfl⟩
        go_wp2_with fail
        refine (mSec_is HA).mono ?_; rintro e w2 ⟨rfl, rfl⟩
        go_wp2_with fail
        refine (mStale_is (q := ⟨qns, false, qmr, qpr, qpv, qpb, qoc, qma, qsm, qmf, qms⟩) (r := ⟨rns, false, rmr, rpr, rpv, rpb, roc, rma, rsm, rmf, rms⟩) HB).mono ?_; rintro e w3 ⟨rfl, hb3⟩
        have B3 := box ((two_below23 _ _ _).trans (hb3.mono (two_below23 _ _ _).size))
        have c3 : w3.cell? ⟨w.heap.size, 10, none⟩ = some (.int .i64 qms) := by
          rw [hb3.cell (by simp; omega)]
          exact ((Ct.new ⟨qns, false, qmr, qpr, qpv, qpb, qoc, qma, qsm, qmf, qms⟩ w 31).next (below_new _ _)).1.2.2.2.2.2.2.2.2.2.2
        clear hb3
        go_wp2
        go_ret
        exact ⟨ret_bool (by rw [HV.out]; simp), B3.out⟩
theorem mFresh_any (f a : Int) (q r : CT) (w : World) :
    Calls Tryd.prog 17 #[.int .i64 f, .int .i64 a, .agg #[.bool q.ns, .bool q.nc, .bool q.mr, .bool q.pr, .bool q.pv, .bool q.pb, .bool q.oc, .int .i64 q.ma, .int .i64 q.sm, .int .i64 q.mf, .int .i64 q.ms], .agg #[.bool r.ns, .bool r.nc, .bool r.mr, .bool r.pr, .bool r.pv, .bool r.pb, .bool r.oc, .int .i64 r.ma, .int .i64 r.sm, .int .i64 r.mf, .int .i64 r.ms]] w fun e w' => e = .returned (.bool (freshV f a q r)) ∧ Below w.heap.size w w' := by
  by_cases h1 : secB f = false ∨ secB a = false
  · exact mFreshA f a q r w h1
  · simp only [not_or, Bool.not_eq_false] at h1
    by_cases h2 : q.nc = true ∨ r.nc = true ∨ (q.ma ≠ -1 ∧ q.ma < a)
    · exact mFreshB f a q r w h1.1 h1.2 h2
    · by_cases hl : a < f
      · exact mFreshC f a q r w h1.1 h1.2 h2 hl
      · exact mFreshD f a q r w h1.1 h1.2 h2 hl
end
end Go.Proofs.YteemoibikkmlbaaDoor.Asc
