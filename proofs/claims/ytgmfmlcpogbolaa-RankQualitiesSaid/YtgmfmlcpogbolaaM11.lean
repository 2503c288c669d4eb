/- Merged texts: AccRef4 AccKeep RnkRef MedSet LisPc LisApp LisApp2. -/
import Derived.Test.YtgmfmlcpogbolaaM02
import Derived.Test.YtgmfmlcpogbolaaM05
import Derived.Test.YtgmfmlcpogbolaaM06
import Derived.Test.YtgmfmlcpogbolaaM07
import Derived.Test.YtgmfmlcpogbolaaM09
import Derived.Test.YtgmfmlcpogbolaaM10
import Derived.DeepKeys4
import Derived.Maps.OwnSet
set_option linter.unusedVariables false
set_option linter.unusedSimpArgs false
set_option maxRecDepth 100000
namespace Go.Proofs.Ytgmfmlcpogbolaa.Asc
section
open Go.RowKit
theorem matchP_acc {r v : List UInt8} {m1 m2 : M} {ok is : Bool} (h1 : ofM (rangeL r) = m1) (h2 : (rangeL r).isSome = ok) (h3 : ofM (mediaL v) = m2) (h4 : (mediaL v).isSome = is) : matchP 1 r v = if (ok && is) = true then matchI m1 m2 else -1 := by
  unfold matchP
  rw [if_pos rfl, ← h2, ← h4, ← h1, ← h3]
  cases rangeL r with
  | none => rfl
  | some a =>
    cases mediaL v with
    | none => rfl
    | some b => rfl
theorem matchP_lan (r v : List UInt8) : matchP 2 r v = matchT r v := by unfold matchP; rw [if_neg (by omega), if_pos rfl]
theorem matchP_cod {k : Int} (h : k = 3 ∨ k = 4) (r v : List UInt8) : matchP k r v = if (tokL r && tokL v && decide (v ≠ [42])) = true then matchC k r v else -1 := by
  unfold matchP; rw [if_neg (by omega), if_neg (by omega), if_pos h]
theorem matchP_no {k : Int} (h1 : ¬ k = 1) (h2 : ¬ k = 2) (h3 : ¬ k = 3) (h4 : ¬ k = 4) (r v : List UInt8) : matchP k r v = -1 := by
  unfold matchP; rw [if_neg h1, if_neg h2, if_neg (by omega)]
theorem rMed13_is {s : ByteArray} {a b : ByteArray} {L : List F} {q : Bool} {w : World} (hs : s.size ≤ 65000) (h : Box (ofM (mediaL s.data.toList) = (a, b, L) ∧ (mediaL s.data.toList).isSome = q)) :
    Calls Try.prog 20 #[.string s] w fun e w' => ∃ p cap, e = .returned (.tuple #[.agg #[.string a, .string b, .slice p L.length cap], .bool q]) ∧ Fs w' p L ∧ Below w.heap.size w w' :=
  (rMedia_any s w hs).mono fun e w' ⟨v, h1, h2, h3⟩ => by
    rw [h.out.1] at h1 h2
    rw [h.out.2] at h1
    obtain ⟨p, cap, rfl, hF, _⟩ := h2.fs
    exact ⟨p, cap, h1, hF, h3⟩
theorem rmatch13_is {a b c d : ByteArray} {p q : Option Addr} {cp cq : Nat} {K L : List F} {i : Int} {w : World} (hk : Box (K.length ≤ 65536)) (hl : Box (L.length ≤ 65536))
    (hzK : Box (∀ i (hi : i < K.length), K[i].1.size ≤ 65536 ∧ K[i].2.size ≤ 65536)) (hzL : Box (∀ i (hi : i < L.length), L[i].1.size ≤ 65536 ∧ L[i].2.size ≤ 65536)) (hK : Fs w p K) (hL : Fs w q L) (h : Box (matchI (a, b, K) (c, d, L) = i)) :
    Calls Try.prog 21 #[.agg #[.string a, .string b, .slice p K.length cp], .agg #[.string c, .string d, .slice q L.length cq]] w fun e w' => e = .returned (.int .i64 i) ∧ Below w.heap.size w w' :=
  (rMatch_any a b c d p q cp cq K L w hk.out hl.out hzK hzL (box hK) (box hL)).mono fun e w' ⟨h1, h2⟩ => ⟨by rw [h1, h.out], h2⟩
set_option maxHeartbeats 1000000 in
theorem rMatch13_acc (r v : ByteArray) (w : World) (hr : r.size ≤ 20000) (hv : v.size ≤ 20000) :
    Calls Try.prog 13 #[.int .i64 1, .string r, .string v] w fun e w' => e = .returned (.int .i64 (matchP 1 r.data.toList v.data.toList)) ∧ Below w.heap.size w w' := by
  obtain ⟨⟨a, b, K⟩, h1⟩ : ∃ m, ofM (rangeL r.data.toList) = m := ⟨_, rfl⟩
  obtain ⟨ok, h2⟩ : ∃ q, (rangeL r.data.toList).isSome = q := ⟨_, rfl⟩
  obtain ⟨⟨c, d, L⟩, h3⟩ : ∃ m, ofM (mediaL v.data.toList) = m := ⟨_, rfl⟩
  obtain ⟨is, h4⟩ : ∃ q, (mediaL v.data.toList).isSome = q := ⟨_, rfl⟩
  have HV := box (matchP_acc h1 h2 h3 h4)
  obtain ⟨k1, k2, _, _⟩ := range_len h1
  obtain ⟨l1, l2, _, _⟩ := media_len h3
  have lK : Box (K.length ≤ 65536) := box (by omega)
  have lL : Box (L.length ≤ 65536) := box (by omega)
  have zK : Box (∀ i (hi : i < K.length), K[i].1.size ≤ 65536 ∧ K[i].2.size ≤ 65536) := box (fun i hi => by have := k2 i hi; omega)
  have zL : Box (∀ i (hi : i < L.length), L[i].1.size ≤ 65536 ∧ L[i].2.size ≤ 65536) := box (fun i hi => by have := l2 i hi; omega)
  have H1 := box (And.intro h1 h2)
  have H2 := box (And.intro h3 h4)
  have hr6 : r.size ≤ 65000 := by omega
  have hv6 : v.size ≤ 65000 := by omega
  clear h1 h2 h3 h4 k1 k2 l1 l2
  go_enter Try.func13, Try.ntmps13
  go_wp2_with fail
  refine (rRange_is hr6 H1).mono ?_; rintro e w1 ⟨p1, c1, rfl, hO1, hb1⟩
  obtain ⟨p9, c9, hv9, hF1, _⟩ := hO1.fs
  cases hv9
  have hnw := below_new w1 (.cells #[.string a, .string b, .slice p1 K.length c1] 45)
  have C1 := box (C3.new (.string a) (.string b) (.slice p1 K.length c1) w1 45)
  have F1 := box (hF1.below hnw)
  have B1 := box (hb1.trans (hnw.mono hb1.size))
  clear hO1 hF1 hb1 hnw
  go_wp2_with fail
  refine (rMed13_is hv6 H2).mono ?_; rintro e w2 ⟨p2, c2, rfl, hF2, hb2⟩
  have hnw := below_new w2 (.cells #[.string c, .string d, .slice p2 L.length c2] 45)
  have N1 := C1.out.next hb2
  have F2 := box ((F1.out.below hb2).below hnw)
  have G2 := box (hF2.below hnw)
  have B2 := box (B1.out.trans ((hb2.trans (hnw.mono hb2.size)).mono B1.out.size))
  have hne : w1.heap.size ≠ w2.heap.size := Nat.ne_of_lt N1.lt
  obtain ⟨⟨s0, s1, s2⟩, _⟩ := N1.next hnw
  obtain ⟨⟨r0, r1, r2⟩, _⟩ := N1
  clear hF2 hb2 hnw
  cases ok with
  | false =>
    have HR : Box (matchP 1 r.data.toList v.data.toList = -1) := box (by rw [HV.out]; rfl)
    go_wp2
    go_ret
    exact ⟨by rw [HR.out]; rfl, B2.out⟩
  | true =>
    cases is with
    | false =>
      have HR : Box (matchP 1 r.data.toList v.data.toList = -1) := box (by rw [HV.out]; rfl)
      go_wp2
      go_ret
      exact ⟨by rw [HR.out]; rfl, B2.out⟩
    | true =>
      have HR : Box (matchI (a, b, K) (c, d, L) = matchP 1 r.data.toList v.data.toList) := box (by rw [HV.out]; rfl)
      go_wp2_with fail
      refine (rmatch13_is lK lL zK zL F2.out G2.out HR).mono ?_; rintro e w3 ⟨rfl, hb3⟩
      have B3 := box (B2.out.trans (hb3.mono B2.out.size))
      clear hb3 r0 r1 r2 s0 s1 s2
      go_wp2
      go_ret
      exact ⟨rfl, B3.out⟩
theorem rMatchC13_is {k i : Int} {r v : ByteArray} {w : World} (hk : InI64 k) (hr : r.size ≤ 20000) (hv : v.size ≤ 20000) (h : Box (matchC k r.data.toList v.data.toList = i)) :
    Calls Try.prog 24 #[.int .i64 k, .string r, .string v] w fun e w' => e = .returned (.int .i64 i) ∧ Below w.heap.size w w' :=
  (rMatchC_any k r v w hk (by omega) (by omega)).mono fun e w' ⟨h1, h2⟩ => ⟨by rw [h1, h.out], h2⟩
theorem star13 {s : ByteArray} : (s.toList == [42]) = decide (s.data.toList = [42]) := by
  rw [toList_data]
  by_cases h : s.data.toList = [42]
  · rw [decide_eq_true h, h]; rfl
  · rw [decide_eq_false h, beq_eq_false_iff_ne]; exact h
set_option maxHeartbeats 1000000 in
theorem rMatch13_cod (k : Int) (r v : ByteArray) (w : World) (hk : k = 3 ∨ k = 4) (hr : r.size ≤ 20000) (hv : v.size ≤ 20000) :
    Calls Try.prog 13 #[.int .i64 k, .string r, .string v] w fun e w' => e = .returned (.int .i64 (matchP k r.data.toList v.data.toList)) ∧ Below w.heap.size w w' := by
  have HV := box (matchP_cod hk r.data.toList v.data.toList)
  have hki : InI64 k := by rcases hk with rfl | rfl <;> exact ⟨by omega, by omega⟩
  have hst := star13 (s := v)
  have hrm : r.size ≤ maxLen := by unfold maxLen; omega
  have hvm : v.size ≤ maxLen := by unfold maxLen; omega
  cases ht : tokL r.data.toList with
  | false =>
    have HT := box ht
    have HR : Box (matchP k r.data.toList v.data.toList = -1) := box (by rw [HV.out, ht]; rfl)
    clear ht
    rcases hk with rfl | rfl
    all_goals
      go_enter Try.func13, Try.ntmps13
      go_wp2_with fail
      refine (rTok13_is hrm HT).mono ?_; rintro e w1 ⟨rfl, rfl⟩
      go_wp2
      go_ret
      exact ⟨by rw [HR.out]; rfl, Below.refl _ _⟩
  | true =>
    have HT := box ht
    cases hu : tokL v.data.toList with
    | false =>
      have HU := box hu
      have HR : Box (matchP k r.data.toList v.data.toList = -1) := box (by rw [HV.out, ht, hu]; rfl)
      clear ht hu
      rcases hk with rfl | rfl
      all_goals
        go_enter Try.func13, Try.ntmps13
        go_wp2_with fail
        refine (rTok13_is hrm HT).mono ?_; rintro e w1 ⟨rfl, rfl⟩
        go_wp2_with fail
        refine (rTok13_is hvm HU).mono ?_; rintro e w1 ⟨rfl, rfl⟩
        go_wp2
        go_ret
        exact ⟨by rw [HR.out]; rfl, Below.refl _ _⟩
    | true =>
      have HU := box hu
      by_cases hs : v.data.toList = [42]
      · have HR : Box (matchP k r.data.toList v.data.toList = -1) := box (by rw [HV.out, ht, hu, decide_eq_false (by simp [hs])]; rfl)
        rw [decide_eq_true hs] at hst
        clear ht hu hs
        rcases hk with rfl | rfl
        all_goals
          go_enter Try.func13, Try.ntmps13
          go_wp2_with fail
          refine (rTok13_is hrm HT).mono ?_; rintro e w1 ⟨rfl, rfl⟩
          go_wp2_with fail
          refine (rTok13_is hvm HU).mono ?_; rintro e w1 ⟨rfl, rfl⟩
          go_wp2
          go_ret
          exact ⟨by rw [HR.out]; rfl, Below.refl _ _⟩
      · have HR : Box (matchC k r.data.toList v.data.toList = matchP k r.data.toList v.data.toList) := box (by rw [HV.out, ht, hu, decide_eq_true hs]; rfl)
        rw [decide_eq_false hs] at hst
        clear ht hu hs
        rcases hk with rfl | rfl
        all_goals
          go_enter Try.func13, Try.ntmps13
          go_wp2_with fail
          refine (rTok13_is hrm HT).mono ?_; rintro e w1 ⟨rfl, rfl⟩
          go_wp2_with fail
          refine (rTok13_is hvm HU).mono ?_; rintro e w1 ⟨rfl, rfl⟩
          go_wp2_with fail
          refine (rMatchC13_is hki hr hv HR).mono ?_; rintro e w2 ⟨rfl, hb2⟩
          go_wp2
          go_ret
          exact ⟨rfl, hb2⟩
theorem rMatch13_any (k : Int) (r v : ByteArray) (w : World) (hk : InI64 k) (hr : r.size ≤ 20000) (hv : v.size ≤ 20000) :
    Calls Try.prog 13 #[.int .i64 k, .string r, .string v] w fun e w' => e = .returned (.int .i64 (matchP k r.data.toList v.data.toList)) ∧ Below w.heap.size w w' := by
  by_cases h1 : k = 1
  · subst h1; exact rMatch13_acc r v w hr hv
  · by_cases h2 : k = 2
    · subst h2
      have HV := box (matchP_lan r.data.toList v.data.toList)
      have hr6 : r.size ≤ 65000 := by omega
      have hv6 : v.size ≤ 65000 := by omega
      clear h1
      go_enter Try.func13, Try.ntmps13
      go_wp2_with fail
      refine (rMatchT_any r v _ hr6 hv6).mono ?_; rintro e w1 ⟨rfl, hb1⟩
      go_wp2
      go_ret
      exact ⟨by rw [HV.out]; rfl, hb1⟩
    · by_cases h34 : k = 3 ∨ k = 4
      · exact rMatch13_cod k r v w h34 hr hv
      · have h3 : ¬ k = 3 := fun h => h34 (.inl h)
        have h4 : ¬ k = 4 := fun h => h34 (.inr h)
        have HV := box (matchP_no h1 h2 h3 h4 r.data.toList v.data.toList)
        have e1 : (k == 1) = false := by rw [beq_eq_false_iff_ne]; exact h1
        have e2 : (k == 2) = false := by rw [beq_eq_false_iff_ne]; exact h2
        have e3 : (k == 3) = false := by rw [beq_eq_false_iff_ne]; exact h3
        have e4 : (k == 4) = false := by rw [beq_eq_false_iff_ne]; exact h4
        clear h1 h2 h3 h4 h34
        go_enter Try.func13, Try.ntmps13
        go_wp2
        go_ret
        exact ⟨by rw [HV.out]; rfl, Below.refl _ _⟩
end
section
open Go.RowKit
def okQ (p : QP) : Bool := decide (p.1.size ≤ 100)
def keepQ (L : List QP) : Bool := L.all okQ && decide (L.length ≤ 20)
theorem keepQ_bounds {L : List QP} (h : keepQ L = true) : L.length ≤ 20 ∧ ∀ i (hi : i < L.length), L[i].1.size ≤ 100 := by
  unfold keepQ at h
  rw [Bool.and_eq_true, decide_eq_true_eq, List.all_eq_true] at h
  exact ⟨h.2, fun i hi => by have := h.1 _ (List.getElem_mem hi); unfold okQ at this; simpa using this⟩
theorem keepPrefs_any (a : Option Addr) (cap : Nat) (L : List QP) (w : World) (hl : L.length ≤ maxLen) (hF : Box (Qs w a L)) :
    Calls Try.prog 7 #[.slice a L.length cap] w fun e w' => e = .returned (.bool (keepQ L)) ∧ w = w' := by
  unfold maxLen at hl
  go_enter Try.func7, Try.ntmps7
  go_wp2
  go_loop [3] (fun i => ∃ k : Nat, k ≤ L.length ∧ k ≤ 21 ∧ i = .int .i64 k ∧ ∀ j (hj : j < L.length), j < k → okQ L[j] = true) (fun i => 21 - (intOf i).toNat)
  case atStart => exact ⟨0, Nat.zero_le _, Nat.zero_le _, rfl, fun j hj h => absurd h (by omega)⟩
  case round =>
    obtain ⟨k, hk, hk21, rfl, hall⟩ := hrel
    have HA := box hall
    clear hall
    by_cases hlt : k < L.length
    · have hki : (k : Int) < (L.length : Int) := by omega
      by_cases h21 : k < 21
      · have h21i : (k : Int) < 21 := by omega
        obtain ⟨g, off, rfl, c0, c1⟩ := hF.out k hlt
        obtain ⟨p, hp⟩ : ∃ p, L[k] = p := ⟨_, rfl⟩
        rw [hp] at c0 c1
        by_cases h100 : p.1.size ≤ 100
        · have h1i : ¬ (100 : Int) < (p.1.size : Int) := by omega
          have HN : Box (∀ j (hj : j < L.length), j < k + 1 → okQ L[j] = true) := box (fun j hj hjk => by
            by_cases e : j = k
            · subst e; rw [hp]; unfold okQ; exact decide_eq_true h100
            · exact HA.out j hj (by omega))
          clear hp
          go_wp2
          go_round
          case rel => exact ⟨k + 1, hlt, by omega, by go_num, HN.out⟩
          case measure => simp [intOf]; omega
        · have h1i : (100 : Int) < (p.1.size : Int) := by omega
          have HV : Box (keepQ L = false) := box (by
            unfold keepQ
            have : L.all okQ = false := by
              rw [List.all_eq_false]
              exact ⟨L[k], List.getElem_mem hlt, by rw [hp]; unfold okQ; simpa using h100⟩
            rw [this]; rfl)
          clear hp
          go_wp2
          go_ret
          exact ⟨by rw [HV.out]; rfl, rfl⟩
      · have h21i : ¬ (k : Int) < 21 := by omega
        have hli : ¬ (L.length : Int) ≤ 20 := by omega
        have HV : Box (keepQ L = false) := box (by unfold keepQ; rw [decide_eq_false (by omega), Bool.and_false])
        go_wp2
        go_ret
        exact ⟨by rw [HV.out]; rfl, rfl⟩
    · have hki : ¬ (k : Int) < (L.length : Int) := by omega
      have HV : Box (keepQ L = decide ((L.length : Int) ≤ 20)) := box (by
        unfold keepQ
        have : L.all okQ = true := by
          rw [List.all_eq_true]
          intro p hp
          obtain ⟨j, hj, rfl⟩ := List.getElem_of_mem hp
          exact HA.out j hj (by omega)
        rw [this, Bool.true_and]
        apply decide_eq_decide.2; omega)
      go_wp2
      go_ret
      exact ⟨by rw [HV.out]; first | rfl | exact ret_bool (by first | rfl | (apply decide_eq_decide.2; omega)), rfl⟩
end
section
open Go.RowKit
theorem rMatch14_is {k i : Int} {r v : ByteArray} {w : World} (hk : InI64 k) (hr : r.size ≤ 20000) (hv : v.size ≤ 20000) (h : Box (matchP k r.data.toList v.data.toList = i)) :
    Calls Try.prog 13 #[.int .i64 k, .string r, .string v] w fun e w' => e = .returned (.int .i64 i) ∧ Below w.heap.size w w' :=
  (rMatch13_any k r v w hk hr hv).mono fun e w' ⟨h1, h2⟩ => ⟨by rw [h1, h.out], h2⟩
theorem qual0_no {k : Int} {v : List UInt8} (h : ¬ k = 4) : qual0 k v = 0 := by unfold qual0; rw [if_neg (fun h1 => h h1.1)]
theorem qual0_off {v : List UInt8} (h : foldL v idenL = false) : qual0 4 v = 0 := by unfold qual0; rw [h, if_neg (fun h1 => by cases h1.2)]
theorem qual0_on {v : List UInt8} (h : foldL v idenL = true) : qual0 4 v = 1 := by unfold qual0; rw [h, if_pos ⟨rfl, rfl⟩]
def QlRel (k : Int) (v : List UInt8) (L : List QP) (W : World) (b q i : Value) (wr : World) : Prop :=
  ∃ (x y : Int) (j : Nat), b = .int .i64 x ∧ q = .int .i64 y ∧ i = .int .i64 j ∧ j ≤ L.length ∧ bestQ k v (L.take j) (-1, qual0 k v) = (x, y) ∧ Below W.heap.size W wr
theorem QlRel.below {k : Int} {v : List UInt8} {L : List QP} {W w1 w2 : World} {b q i : Value} (h : QlRel k v L W b q i w1) (hb : Below w1.heap.size w1 w2) : QlRel k v L W b q i w2 := by
  obtain ⟨x, y, j, h1, h2, h3, h4, h5, h6⟩ := h
  exact ⟨x, y, j, h1, h2, h3, h4, h5, h6.trans (hb.mono h6.size)⟩
theorem qual_step1 {k s x y z : Int} {v : List UInt8} {L : List QP} {j : Nat} {p : QP} (hj : j < L.length) (hp : L[j] = p) (h : bestQ k v (L.take j) (-1, qual0 k v) = (x, y)) (hs : matchP k p.1.data.toList v = s) (hlt : x < s) (hz : p.2 = z) : bestQ k v (L.take (j + 1)) (-1, qual0 k v) = (s, z) := by
  rw [best_next hj, h, hp]
  unfold stepQ14
  rw [hs, if_pos hlt, hz]
theorem qual_step2 {k s x y : Int} {v : List UInt8} {L : List QP} {j : Nat} {p : QP} (hj : j < L.length) (hp : L[j] = p) (h : bestQ k v (L.take j) (-1, qual0 k v) = (x, y)) (hs : matchP k p.1.data.toList v = s) (hlt : ¬ x < s) : bestQ k v (L.take (j + 1)) (-1, qual0 k v) = (x, y) := by
  rw [best_next hj, h, hp]
  unfold stepQ14
  rw [hs, if_neg hlt]
theorem iden_lit : (⟨#[105, 100, 101, 110, 116, 105, 116, 121]⟩ : ByteArray).data.toList = idenL := rfl
set_option maxHeartbeats 1000000 in
theorem rQuality_any (k : Int) (a : Option Addr) (cap : Nat) (L : List QP) (present : Bool) (v : ByteArray) (w : World) (hk : InI64 k) (hl : L.length ≤ 65536) (hz : Box (∀ i (hi : i < L.length), L[i].1.size ≤ 20000)) (hv : v.size ≤ 20000) (hF : Box (Qs w a L)) :
    Calls Try.prog 9 #[.int .i64 k, .slice a L.length cap, .bool present, .string v] w fun e w' => e = .returned (.int .i64 (qualR k L present v.data.toList)) ∧ Below w.heap.size w w' := by
  cases present with
  | false =>
    go_enter Try.func9, Try.ntmps9
    go_wp2
    go_ret
    exact ⟨rfl, Below.refl _ _⟩
  | true =>
    have hv4 : v.size ≤ 4294967296 := by omega
    have h8 : (⟨#[105, 100, 101, 110, 116, 105, 116, 121]⟩ : ByteArray).size ≤ 4294967296 := by decide
    have h0 : Box (QlRel k v.data.toList L w (.int .i64 (-1)) (.int .i64 (qual0 k v.data.toList)) (.int .i64 0) w) := box ⟨-1, qual0 k v.data.toList, 0, rfl, rfl, rfl, Nat.zero_le _, rfl, Below.refl _ _⟩
    have hcases : (k = 4 ∧ foldL v.data.toList idenL = false ∧ qual0 k v.data.toList = 0) ∨ (k = 4 ∧ foldL v.data.toList idenL = true ∧ qual0 k v.data.toList = 1) ∨ (¬ k = 4 ∧ qual0 k v.data.toList = 0) := by
      by_cases h4 : k = 4
      · subst h4
        cases hf : foldL v.data.toList idenL with
        | false => exact .inl ⟨rfl, rfl, qual0_off hf⟩
        | true => exact .inr (.inl ⟨rfl, rfl, qual0_on hf⟩)
      · exact .inr (.inr ⟨h4, qual0_no h4⟩)
    rcases hcases with ⟨h4, hf, hu⟩ | ⟨h4, hf, hu⟩ | ⟨h4, hu⟩
    · subst h4
      have HF : Box (foldL v.data.toList (⟨#[105, 100, 101, 110, 116, 105, 116, 121]⟩ : ByteArray).data.toList = false) := box (by rw [iden_lit]; exact hf)
      rw [hu] at h0
      clear hf hu
      go_enter Try.func9, Try.ntmps9
      go_wp2_with fail
      refine (rFold13_is hv4 h8 HF).mono ?_; rintro e w1 ⟨rfl, hb1⟩
      have h1 := box (h0.out.below hb1)
      clear hb1 h0
      go_wp2
      go_loopw [9, 10, 11, 12] (fun b q i _ wr => QlRel 4 v.data.toList L w b q i wr) (fun _ _ i _ _ => L.length - (intOf i).toNat)
      case atStart => exact h1.out
      case round =>
        obtain ⟨x, y, j, rfl, rfl, rfl, hj, hbest, hbel⟩ := hrel
        have HB := box hbest
        have BL := box hbel
        have F1 := box (hF.out.below hbel)
        clear hbest hbel
        by_cases hlt : j < L.length
        · have hji : (j : Int) < (L.length : Int) := by omega
          obtain ⟨p, hp⟩ : ∃ p, L[j] = p := ⟨_, rfl⟩
          have HP := box hp
          have hpz : p.1.size ≤ 20000 := by have := hz.out j hlt; rw [hp] at this; exact this
          obtain ⟨s, hs⟩ : ∃ s, matchP 4 p.1.data.toList v.data.toList = s := ⟨_, rfl⟩
          have HS := box hs
          obtain ⟨g, off, rfl, c0, c1⟩ := F1.out j hlt
          rw [hp] at c0 c1
          have C1 := box c1
          clear hs hp c1
          by_cases hgt : x < s
          · have HN : Box (bestQ 4 v.data.toList (L.take (j + 1)) (-1, qual0 4 v.data.toList) = (s, p.2)) := box (qual_step1 hlt HP.out HB.out HS.out hgt rfl)
            go_wp2_with fail
            refine (rMatch14_is hk hpz hv HS).mono ?_; rintro e w2 ⟨rfl, hb2⟩
            have B2 := box (BL.out.trans (hb2.mono BL.out.size))
            have c2 := (hb2.cell (cell_lt C1.out)).trans C1.out
            clear hb2 c0
            go_wp2_with fail
            go_region
            go_wp2
            go_roundw
            case rel => exact ⟨s, p.2, j + 1, rfl, rfl, by go_num, hlt, HN.out, B2.out.drew⟩
            case measure => simp [intOf]; omega
          · have HN : Box (bestQ 4 v.data.toList (L.take (j + 1)) (-1, qual0 4 v.data.toList) = (x, y)) := box (qual_step2 hlt HP.out HB.out HS.out hgt)
            go_wp2_with fail
            refine (rMatch14_is hk hpz hv HS).mono ?_; rintro e w2 ⟨rfl, hb2⟩
            have B2 := box (BL.out.trans (hb2.mono BL.out.size))
            clear hb2 c0
            go_wp2
            go_roundw
            case rel => exact ⟨x, y, j + 1, rfl, rfl, by go_num, hlt, HN.out, B2.out⟩
            case measure => simp [intOf]; omega
        · have hji : ¬ (j : Int) < (L.length : Int) := by omega
          have HV : Box (qualR 4 L true v.data.toList = y) := box (by
            have hjl : j = L.length := by omega
            subst hjl
            have := HB.out
            rw [List.take_length] at this
            unfold qualR; rw [if_pos rfl, this])
          go_wp2
          go_ret
          exact ⟨by rw [HV.out]; rfl, BL.out⟩
    · subst h4
      have HF : Box (foldL v.data.toList (⟨#[105, 100, 101, 110, 116, 105, 116, 121]⟩ : ByteArray).data.toList = true) := box (by rw [iden_lit]; exact hf)
      rw [hu] at h0
      clear hf hu
      go_enter Try.func9, Try.ntmps9
      go_wp2_with fail
      refine (rFold13_is hv4 h8 HF).mono ?_; rintro e w1 ⟨rfl, hb1⟩
      have h1 := box (h0.out.below hb1)
      clear hb1 h0
      go_wp2
      go_loopw [9, 10, 11, 12] (fun b q i _ wr => QlRel 4 v.data.toList L w b q i wr) (fun _ _ i _ _ => L.length - (intOf i).toNat)
      case atStart => exact h1.out
      case round =>
        obtain ⟨x, y, j, rfl, rfl, rfl, hj, hbest, hbel⟩ := hrel
        have HB := box hbest
        have BL := box hbel
        have F1 := box (hF.out.below hbel)
        clear hbest hbel
        by_cases hlt : j < L.length
        · have hji : (j : Int) < (L.length : Int) := by omega
          obtain ⟨p, hp⟩ : ∃ p, L[j] = p := ⟨_, rfl⟩
          have HP := box hp
          have hpz : p.1.size ≤ 20000 := by have := hz.out j hlt; rw [hp] at this; exact this
          obtain ⟨s, hs⟩ : ∃ s, matchP 4 p.1.data.toList v.data.toList = s := ⟨_, rfl⟩
          have HS := box hs
          obtain ⟨g, off, rfl, c0, c1⟩ := F1.out j hlt
          rw [hp] at c0 c1
          have C1 := box c1
          clear hs hp c1
          by_cases hgt : x < s
          · have HN : Box (bestQ 4 v.data.toList (L.take (j + 1)) (-1, qual0 4 v.data.toList) = (s, p.2)) := box (qual_step1 hlt HP.out HB.out HS.out hgt rfl)
            go_wp2_with fail
            refine (rMatch14_is hk hpz hv HS).mono ?_; rintro e w2 ⟨rfl, hb2⟩
            have B2 := box (BL.out.trans (hb2.mono BL.out.size))
            have c2 := (hb2.cell (cell_lt C1.out)).trans C1.out
            clear hb2 c0
            go_wp2_with fail
            go_region
            go_wp2
            go_roundw
            case rel => exact ⟨s, p.2, j + 1, rfl, rfl, by go_num, hlt, HN.out, B2.out.drew⟩
            case measure => simp [intOf]; omega
          · have HN : Box (bestQ 4 v.data.toList (L.take (j + 1)) (-1, qual0 4 v.data.toList) = (x, y)) := box (qual_step2 hlt HP.out HB.out HS.out hgt)
            go_wp2_with fail
            refine (rMatch14_is hk hpz hv HS).mono ?_; rintro e w2 ⟨rfl, hb2⟩
            have B2 := box (BL.out.trans (hb2.mono BL.out.size))
            clear hb2 c0
            go_wp2
            go_roundw
            case rel => exact ⟨x, y, j + 1, rfl, rfl, by go_num, hlt, HN.out, B2.out⟩
            case measure => simp [intOf]; omega
        · have hji : ¬ (j : Int) < (L.length : Int) := by omega
          have HV : Box (qualR 4 L true v.data.toList = y) := box (by
            have hjl : j = L.length := by omega
            subst hjl
            have := HB.out
            rw [List.take_length] at this
            unfold qualR; rw [if_pos rfl, this])
          go_wp2
          go_ret
          exact ⟨by rw [HV.out]; rfl, BL.out⟩
    · have e4 : (k == 4) = false := by rw [beq_eq_false_iff_ne]; exact h4
      rw [hu] at h0
      have h1 := h0
      clear hu h4 h0
      go_enter Try.func9, Try.ntmps9
      go_wp2
      go_loopw [9, 10, 11, 12] (fun b q i _ wr => QlRel k v.data.toList L w b q i wr) (fun _ _ i _ _ => L.length - (intOf i).toNat)
      case atStart => exact h1.out
      case round =>
        obtain ⟨x, y, j, rfl, rfl, rfl, hj, hbest, hbel⟩ := hrel
        have HB := box hbest
        have BL := box hbel
        have F1 := box (hF.out.below hbel)
        clear hbest hbel
        by_cases hlt : j < L.length
        · have hji : (j : Int) < (L.length : Int) := by omega
          obtain ⟨p, hp⟩ : ∃ p, L[j] = p := ⟨_, rfl⟩
          have HP := box hp
          have hpz : p.1.size ≤ 20000 := by have := hz.out j hlt; rw [hp] at this; exact this
          obtain ⟨s, hs⟩ : ∃ s, matchP k p.1.data.toList v.data.toList = s := ⟨_, rfl⟩
          have HS := box hs
          obtain ⟨g, off, rfl, c0, c1⟩ := F1.out j hlt
          rw [hp] at c0 c1
          have C1 := box c1
          clear hs hp c1
          by_cases hgt : x < s
          · have HN : Box (bestQ k v.data.toList (L.take (j + 1)) (-1, qual0 k v.data.toList) = (s, p.2)) := box (qual_step1 hlt HP.out HB.out HS.out hgt rfl)
            go_wp2_with fail
            refine (rMatch14_is hk hpz hv HS).mono ?_; rintro e w2 ⟨rfl, hb2⟩
            have B2 := box (BL.out.trans (hb2.mono BL.out.size))
            have c2 := (hb2.cell (cell_lt C1.out)).trans C1.out
            clear hb2 c0
            go_wp2_with fail
            go_region
            go_wp2
            go_roundw
            case rel => exact ⟨s, p.2, j + 1, rfl, rfl, by go_num, hlt, HN.out, B2.out.drew⟩
            case measure => simp [intOf]; omega
          · have HN : Box (bestQ k v.data.toList (L.take (j + 1)) (-1, qual0 k v.data.toList) = (x, y)) := box (qual_step2 hlt HP.out HB.out HS.out hgt)
            go_wp2_with fail
            refine (rMatch14_is hk hpz hv HS).mono ?_; rintro e w2 ⟨rfl, hb2⟩
            have B2 := box (BL.out.trans (hb2.mono BL.out.size))
            clear hb2 c0
            go_wp2
            go_roundw
            case rel => exact ⟨x, y, j + 1, rfl, rfl, by go_num, hlt, HN.out, B2.out⟩
            case measure => simp [intOf]; omega
        · have hji : ¬ (j : Int) < (L.length : Int) := by omega
          have HV : Box (qualR k L true v.data.toList = y) := box (by
            have hjl : j = L.length := by omega
            subst hjl
            have := HB.out
            rw [List.take_length] at this
            unfold qualR; rw [if_pos rfl, this])
          go_wp2
          go_ret
          exact ⟨by rw [HV.out]; rfl, BL.out⟩
end
section
open Go.RowKit Go.Maps
theorem laidOut10 : laidOutB Try.prog = true := by kernel_rfl
theorem rowPrm : (60 : TypeId) < Try.prog.types.size := of_decide_eq_true (by kernel_rfl)
theorem widePrm : (match Try.prog.underlying 60 with | some (.array _ _) | some (.struct _) => true | _ => false) = true := by rw [Try.underlying60]
theorem lawPrm : Keyed Try.prog 60 := Keyed.of_law (deep_law_laid laidOut10 (m := 3) (by omega) rowPrm (by kernel_rfl) widePrm)
theorem deepPrm : Try.prog.keyType 60 = true := by kernel_rfl
theorem cellsPrm : Try.prog.cellsOf 60 = 2 := by kernel_rfl
theorem cellsStr : Try.prog.cellsOf 9 = 1 := by kernel_rfl
/-- what a parameter reads as when it is a key -/
def pkey (p : F) : Lit := .string (keyBytes [.string p.1.data.toList, .string p.2.data.toList])
def Sml (p : F) : Prop := p.1.size ≤ maxLen ∧ p.2.size ≤ maxLen
theorem formedPrm {c0 c1 : Value} : (Value.agg #[c0, c1]).formed Try.prog 60 = true := by simp [Value.formed, Try.underlying60, cellsPrm]
theorem pkey_of {p : F} (h : Sml p) : keyOf Try.prog 60 (.agg #[.string p.1, .string p.2]) = some (pkey p) := by
  obtain ⟨m, hm⟩ : ∃ m, Try.prog.types.size = m + 1 := Nat.exists_eq_succ_of_ne_zero (Nat.ne_zero_of_lt rowPrm)
  unfold keyOf
  rw [Try.underlying60]
  simp only [deepPrm, formedPrm, Bool.and_self, if_true, hm]
  simp [Program.keyLits, Try.underlying60, Try.underlying9, Value.cells, cellsPrm, cellsStr, h.1, h.2, pkey]
theorem pkey_inj {p q : F} (hp : Sml p) (hq : Sml q) (h : pkey p = pkey q) : p = q := by
  have := lawPrm.inj (pkey_of hp) (h ▸ pkey_of hq)
  simp only [Value.agg.injEq, Array.mk.injEq, List.cons.injEq, Value.string.injEq, and_true] at this
  exact Prod.ext this.1 this.2
theorem pkey_key {p : F} (hp : Sml p) : WideAt.IsKeyLit (pkey p) := lawPrm.key (pkey_of hp)
/-- block b is a set of at most n parameters: those of which S says so -/
def PSet (w : World) (b n : Nat) (S : F → Prop) : Prop :=
  ∃ D : DataW Unit, w.ownsMap Try.prog 60 (plainElem Try.prog 4) b n D ∧ ∀ kl, Maps.has D kl = true ↔ ∃ p, S p ∧ Sml p ∧ pkey p = kl
section
variable {w w' : World} {b n : Nat} {S : F → Prop}
theorem PSet.made (w : World) : PSet (w.alloc (.map #[] 0)) w.heap.size 0 (fun _ => False) :=
  ⟨_, World.ownsMap_made _ _ _ _, fun kl => by simp [Maps.has]⟩
theorem PSet.kept {row : Option Nat} (h : PSet w b n S) (hg : w.grownBy w' row) (hne : some b ≠ row) : PSet w' b n S := by
  obtain ⟨D, h1, h2⟩ := h
  exact ⟨D, h1.kept hg hne, h2⟩
theorem PSet.below {B : Nat} (h : PSet w b n S) (hb : Below B w w') (hB : b < B) : PSet w' b n S := by
  obtain ⟨D, ⟨es, clock, h1, r⟩, h2⟩ := h
  exact ⟨D, ⟨es, clock, (hb.block b hB).trans h1, r⟩, h2⟩
theorem PSet.lt (h : PSet w b n S) : b < w.heap.size := by obtain ⟨D, h1, h2⟩ := h; exact h1.lt
theorem PSet.mono {m : Nat} (h : PSet w b n S) (hm : n ≤ m) : PSet w b m S := by obtain ⟨D, h1, h2⟩ := h; exact ⟨D, h1.mono hm, h2⟩
theorem PSet.iff {T : F → Prop} (h : PSet w b n S) (hT : ∀ p, S p ↔ T p) : PSet w b n T := by
  obtain ⟨D, h1, h2⟩ := h
  refine ⟨D, h1, fun kl => ?_⟩
  rw [h2]
  constructor
  · rintro ⟨p, h3, h4⟩; exact ⟨p, (hT p).1 h3, h4⟩
  · rintro ⟨p, h3, h4⟩; exact ⟨p, (hT p).2 h3, h4⟩
theorem has_put10 {D : DataW Unit} {p : F} {d : DataW Unit} (hD : IsMap D) (hp : Sml p) (h : ∀ kl, Maps.has D kl = true ↔ ∃ p, S p ∧ Sml p ∧ pkey p = kl) :
    ∀ kl, Maps.has (D.put (pkey p) d) kl = true ↔ ∃ q, (S q ∨ q = p) ∧ Sml q ∧ pkey q = kl := by
  intro kl
  by_cases hk : kl = pkey p
  · subst hk
    exact ⟨fun _ => ⟨p, .inr rfl, hp, rfl⟩, fun _ => has_put_same hD (pkey_key hp) d⟩
  · rw [has_put_other hk, h]
    constructor
    · rintro ⟨q, h1, h2, h3⟩; exact ⟨q, .inl h1, h2, h3⟩
    · rintro ⟨q, h1 | rfl, h2, h3⟩
      · exact ⟨q, h1, h2, h3⟩
      · exact absurd h3.symm hk
theorem has_del10 {D : DataW Unit} {p : F} (hp : Sml p) (h : ∀ kl, Maps.has D kl = true ↔ ∃ p, S p ∧ Sml p ∧ pkey p = kl) :
    ∀ kl, Maps.has (D.del (pkey p)) kl = true ↔ ∃ q, (S q ∧ q ≠ p) ∧ Sml q ∧ pkey q = kl := by
  intro kl
  by_cases hk : kl = pkey p
  · subst hk
    rw [has_del_same]
    constructor
    · intro e; cases e
    · rintro ⟨q, ⟨_, hne⟩, h2, h3⟩; exact absurd (pkey_inj h2 hp h3) hne
  · rw [has_del_other hk, h]
    constructor
    · rintro ⟨q, h1, h2, h3⟩; exact ⟨q, ⟨h1, fun e => hk (by rw [← h3, e])⟩, h2, h3⟩
    · rintro ⟨q, ⟨h1, _⟩, h2, h3⟩; exact ⟨q, h1, h2, h3⟩
theorem size_zero10 {D : DataW Unit} (hD : w.ownsMap Try.prog 60 (plainElem Try.prog 4) b n D) (h : ∀ kl, Maps.has D kl = true ↔ ∃ p, S p ∧ Sml p ∧ pkey p = kl) : Maps.size D = 0 ↔ ∀ p, Sml p → ¬ S p := by
  obtain ⟨es, clock, hb, F, hs, rfl⟩ := hD
  have hks := Maps.fit_keys F
  generalize hl : (es.toList.map (Go.WideElems.rg Try.prog 60 (plainElem (H := Unit) Try.prog 4))).foldr DataW.insert [] = l at h
  have hk : ∀ p ∈ l, WideAt.IsKeyLit p.1 := fun p hp => by
    rw [← hl] at hp
    obtain ⟨v, hv⟩ := hks p ((Go.WideShapes.sorted_perm _).mem_iff.1 hp)
    exact lawPrm.key hv
  have hs : Maps.size (DataW.map l) = l.length := rfl
  rw [hs]
  constructor
  · intro h0 p hp hS
    have := (h (pkey p)).2 ⟨p, hS, hp, rfl⟩
    rw [List.length_eq_zero_iff] at h0
    subst h0
    simp [Maps.has] at this
  · intro hn
    cases l with
    | nil => rfl
    | cons x r =>
      exfalso
      have h1 : Maps.has (DataW.map (x :: r)) x.1 = true := by
        rw [Maps.has_eq, List.any_cons, WideAt.sameKey_self (hk x (by simp))]; rfl
      obtain ⟨p, hS, hp, _⟩ := (h x.1).1 h1
      exact hn p hp hS
/-- a store: the call's 'm[p] = true' -/
theorem PSet.put {p : F} {m : Nat} (h : PSet w b n S) (hp : Sml p) (hn : n < maxLen) (hm : n + 1 ≤ m) :
    ∃ w', (Instr.mapUpdate 82 (.map (some b)) (.agg #[.string p.1, .string p.2]) (.bool true)).run Try.prog w = .ok () w' ∧ PSet w' b m (fun q => S q ∨ q = p) ∧ w.grownBy w' (some b) := by
  obtain ⟨D, h1, h2⟩ := h
  obtain ⟨w', r1, r2, r3⟩ := h1.update lawPrm Try.underlying82 hn (pkey_of hp) (plainElem_bool Try.underlying4 true)
  exact ⟨w', r1, ⟨_, r2.mono hm, has_put10 h1.isMap hp h2⟩, r3⟩
end
theorem wpList_put10 {w : World} {ops : Array Oper} {rest : List Oper} {o : Oper} {a : Act} {Q : Exit → Act → World → Prop} {b n m : Nat} {S : F → Prop} {p : F}
    (hg : o.guard = none) (mm x v : Operand) (hop : o.op = Op.mapUpdate 82 mm x v) (h : PSet w b n S) (hp : Sml p) (hn : n < maxLen) (hm : n + 1 ≤ m)
    (em : a.eval mm = .map (some b)) (ex : a.eval x = .agg #[.string p.1, .string p.2]) (ev : a.eval v = .bool true)
    (hK : ∀ w', PSet w' b m (fun q => S q ∨ q = p) → w.grownBy w' (some b) → wpList Try.prog ops Q rest (a.put o.dst undef) w') : wpList Try.prog ops Q (o :: rest) a w := by
  obtain ⟨D, h1, h2⟩ := h
  refine wpList_mapUpdate_own w hg mm x v 82 hop 60 4 lawPrm Try.underlying82 _ b n D em h1 hn _ _ _ ex ev (pkey_of hp) _ [] (plainElem_bool Try.underlying4 true) ?_
  intro w' r2 r3
  exact hK w' ⟨_, r2.mono hm, has_put10 h1.isMap hp h2⟩ r3
theorem wpList_del10 {w : World} {ops : Array Oper} {rest : List Oper} {o : Oper} {a : Act} {Q : Exit → Act → World → Prop} {b n : Nat} {S : F → Prop} {p : F}
    (hg : o.guard = none) (mm x : Operand) (hop : o.op = Op.call { callee := Callee.builtin Builtin.delete, args := #[mm, x], argTypes := #[82, 60] }) (h : PSet w b n S) (hp : Sml p)
    (em : a.eval mm = .map (some b)) (ex : a.eval x = .agg #[.string p.1, .string p.2])
    (hK : ∀ w', PSet w' b n (fun q => S q ∧ q ≠ p) → w.grownBy w' (some b) → wpList Try.prog ops Q rest (a.put o.dst (.tuple #[])) w') : wpList Try.prog ops Q (o :: rest) a w := by
  obtain ⟨D, h1, h2⟩ := h
  refine wpList_delete_own w hg mm x 82 60 hop 4 lawPrm Try.underlying82 _ b n D em h1 _ _ ex (pkey_of hp) ?_
  intro w' r2 r3
  exact hK w' ⟨_, r2, has_del10 hp h2⟩ r3.grown
theorem wpList_len10 {w : World} {ops : Array Oper} {rest : List Oper} {o : Oper} {a : Act} {Q : Exit → Act → World → Prop} {b n : Nat} {S : F → Prop}
    (hg : o.guard = none) (mm : Operand) (hop : o.op = Op.call { callee := Callee.builtin Builtin.len, args := #[mm], argTypes := #[82] }) (h : PSet w b n S)
    (em : a.eval mm = .map (some b)) (hK : ∀ k : Nat, (k = 0 ↔ ∀ p, Sml p → ¬ S p) → wpList Try.prog ops Q rest (a.put o.dst (.int .i64 k)) w) : wpList Try.prog ops Q (o :: rest) a w := by
  obtain ⟨D, h1, h2⟩ := h
  refine wpList_len_own w hg mm 82 hop 60 4 Try.underlying82 _ b n D em h1 ?_
  exact hK _ (size_zero10 h1 h2)
theorem makeHint10 (k : Nat) (w : World) : (Instr.makeMap 82 (some (.int .i64 (k : Int)))).run Try.prog w = .ok (.map (some w.heap.size)) (w.alloc (.map #[] 0)) := by
  simp [Instr.makeMap, run_underlying Try.underlying82, asInt, asIntOf, Result.andThen]
end
section
/-- outside quoted strings (0), within one (1), behind a backslash within one (2) -/
def stepQ (s : Nat) (c : UInt8) : Nat := if s = 0 then (if c = 34 then 1 else 0) else if s = 1 then (if c = 34 then 0 else if c = 92 then 2 else 1) else 1
def pcF (sep : UInt8) : Nat → List UInt8 → List UInt8 → List UInt8 × List UInt8 × Bool
  | _, [], acc => (acc, [], false)
  | s, c :: r, acc => if s = 0 ∧ c = sep then (acc, r, true) else pcF sep (stepQ s c) r (acc ++ [c])
def pcL (sep : UInt8) (l : List UInt8) : List UInt8 × List UInt8 × Bool := pcF sep 0 l []
def moreL (sep : UInt8) (m : Bool) (l : List UInt8) : List (List UInt8) := if m then cutL sep l else []
theorem pcF_cons (sep : UInt8) (s : Nat) (c : UInt8) (r acc : List UInt8) : pcF sep s (c :: r) acc = if s = 0 ∧ c = sep then (acc, r, true) else pcF sep (stepQ s c) r (acc ++ [c]) := rfl
def qS (q : Bool) : Nat := if q = true then 1 else 0
theorem cut_pc {sep : UInt8} (hs : sep ≠ 34) : ∀ (f : Nat) (q : Bool) (l acc : List UInt8), l.length ≤ f → cutF sep f q l acc = (pcF sep (qS q) l acc).1 :: moreL sep (pcF sep (qS q) l acc).2.2 (pcF sep (qS q) l acc).2.1
  | f, q, [], acc, _ => by rw [cutF_nil]; rfl
  | 0, q, c :: r, acc, h => by simp at h
  | f + 1, q, c :: r, acc, h => by
    simp only [List.length_cons] at h
    rw [cutF_cons, pcF_cons]
    by_cases h1 : q = true ∧ c = 92
    · obtain ⟨rfl, rfl⟩ := h1
      rw [if_pos ⟨rfl, rfl⟩, if_neg (fun h => absurd h.1 (by decide))]
      match r, h with
      | [], h => rfl
      | d :: r2, h =>
        simp only [List.length_cons] at h
        simp only
        rw [cut_pc hs f true r2 _ (by omega), pcF_cons, if_neg (fun h => absurd h.1 (by decide)), List.append_assoc]
        rfl
    · rw [if_neg h1]
      by_cases h2 : c = 34
      · subst h2
        rw [if_pos rfl, if_neg (fun h => hs h.2.symm), cut_pc hs f (!q) r _ (by omega)]
        cases q <;> rfl
      · rw [if_neg h2]
        by_cases h3 : c = sep ∧ q = false
        · obtain ⟨rfl, rfl⟩ := h3
          rw [if_pos ⟨rfl, rfl⟩, if_pos ⟨rfl, rfl⟩]
          show acc :: cutF c f false r [] = acc :: cutF c r.length false r []
          rw [cutF_fuel f r.length false r [] (by omega) (Nat.le_refl _)]
        · rw [if_neg h3]
          have e : stepQ (qS q) c = qS q := by
            unfold stepQ
            cases q
            · show (if (0 : Nat) = 0 then _ else _) = _
              rw [if_pos rfl, if_neg h2]; rfl
            · show (if (1 : Nat) = 0 then _ else if (1 : Nat) = 1 then _ else _) = _
              rw [if_neg (by decide), if_pos rfl, if_neg h2, if_neg (fun h => h1 ⟨rfl, h⟩)]; rfl
          have n : ¬ (qS q = 0 ∧ c = sep) := by
            rintro ⟨h5, h6⟩
            cases q
            · exact h3 ⟨h6, rfl⟩
            · exact absurd h5 (by decide)
          rw [if_neg n, e, cut_pc hs f q r _ (by omega)]
theorem cutL_pc {sep : UInt8} (hs : sep ≠ 34) (l : List UInt8) : cutL sep l = (pcL sep l).1 :: moreL sep (pcL sep l).2.2 (pcL sep l).2.1 := cut_pc hs l.length false l [] (Nat.le_refl _)
/-- the steps, by places -/
def pcAt (sep : UInt8) (s : Nat) (l : List UInt8) (k : Nat) : List UInt8 × List UInt8 × Bool := pcF sep s (l.drop k) (l.take k)
theorem pc_start (sep : UInt8) (l : List UInt8) : pcL sep l = pcAt sep 0 l 0 := by unfold pcL pcAt; simp
theorem pc_end {sep : UInt8} {s : Nat} {l : List UInt8} {k : Nat} (h : l.length ≤ k) : pcAt sep s l k = (l, [], false) := by
  unfold pcAt; rw [List.drop_of_length_le h, List.take_of_length_le h]; rfl
theorem pc_sep {sep : UInt8} {l : List UInt8} {k : Nat} (hk : k < l.length) (h : l[k] = sep) : pcAt sep 0 l k = (l.take k, l.drop (k + 1), true) := by
  unfold pcAt; rw [List.drop_eq_getElem_cons hk, pcF_cons, if_pos ⟨rfl, h⟩]
theorem pc_step {sep : UInt8} {s : Nat} {l : List UInt8} {k : Nat} (hk : k < l.length) (h : ¬ (s = 0 ∧ l[k] = sep)) : pcAt sep s l k = pcAt sep (stepQ s l[k]) l (k + 1) := by
  unfold pcAt
  rw [List.drop_eq_getElem_cons hk, pcF_cons, if_neg h, List.take_add_one, List.getElem?_eq_getElem hk]; rfl
theorem stepQ_le (s : Nat) (c : UInt8) : stepQ s c ≤ 2 := by unfold stepQ; repeat' split <;> try omega
/-- sizes -/
theorem pcF_size (sep : UInt8) : ∀ (l : List UInt8) (s : Nat) (acc : List UInt8), (pcF sep s l acc).1.length + (pcF sep s l acc).2.1.length ≤ acc.length + l.length ∧ ((pcF sep s l acc).2.2 = true → (pcF sep s l acc).2.1.length < l.length)
  | [], s, acc => ⟨by simp [pcF], fun h => by simp [pcF] at h⟩
  | c :: r, s, acc => by
    rw [pcF_cons]
    split
    · refine ⟨by simp only [List.length_cons]; omega, fun _ => by simp⟩
    · obtain ⟨h1, h2⟩ := pcF_size sep r (stepQ s c) (acc ++ [c])
      simp only [List.length_append, List.length_cons, List.length_nil] at h1 ⊢
      exact ⟨by omega, fun h => by have := h2 h; omega⟩
end
section
open Go.RowKit
theorem after_any (st : Nat) (c : UInt8) (w : World) (h : st ≤ 2) :
    Calls Try.prog 83 #[.int .i64 (st : Int), .int .u8 (c.toNat : Int)] w fun e w' => e = .returned (.int .i64 ((stepQ st c : Nat) : Int)) ∧ w = w' := by
  obtain ⟨v, hv⟩ : ∃ v, stepQ st c = v := ⟨_, rfl⟩
  rw [hv]
  rcases h34 : ((c.toNat : Int) == 34) with _ | _
  · have n34 : c ≠ 34 := byte_no (d := 34) h34
    rcases h92 : ((c.toNat : Int) == 92) with _ | _
    · have n92 : c ≠ 92 := byte_no (d := 92) h92
      have hs : st = 0 ∧ v = 0 ∨ st = 1 ∧ v = 1 ∨ st = 2 ∧ v = 1 := by
        unfold stepQ at hv
        rw [if_neg n34, if_neg n34, if_neg n92] at hv
        split at hv
        · omega
        · split at hv <;> omega
      clear n34 n92 hv h
      rcases hs with ⟨rfl, rfl⟩ | ⟨rfl, rfl⟩ | ⟨rfl, rfl⟩
      all_goals
        go_enter Try.func83, Try.ntmps83
        go_wp2
        go_ret
        exact ⟨rfl, rfl⟩
    · have e92 : c = 92 := byte_is (d := 92) h92
      have hs : st = 0 ∧ v = 0 ∨ st = 1 ∧ v = 2 ∨ st = 2 ∧ v = 1 := by
        unfold stepQ at hv
        rw [if_neg n34, if_neg n34, if_pos e92] at hv
        split at hv
        · omega
        · split at hv <;> omega
      clear n34 e92 hv h
      rcases hs with ⟨rfl, rfl⟩ | ⟨rfl, rfl⟩ | ⟨rfl, rfl⟩
      all_goals
        go_enter Try.func83, Try.ntmps83
        go_wp2
        go_ret
        exact ⟨rfl, rfl⟩
  · have e34 : c = 34 := byte_is (d := 34) h34
    have hs : st = 0 ∧ v = 1 ∨ st = 1 ∧ v = 0 ∨ st = 2 ∧ v = 1 := by
      unfold stepQ at hv
      rw [if_pos e34, if_pos e34] at hv
      split at hv
      · omega
      · split at hv <;> omega
    clear e34 hv h
    rcases hs with ⟨rfl, rfl⟩ | ⟨rfl, rfl⟩ | ⟨rfl, rfl⟩
    all_goals
      go_enter Try.func83, Try.ntmps83
      go_wp2
      go_ret
      exact ⟨rfl, rfl⟩
def pcV (sep : UInt8) (l : List UInt8) : Value := .tuple #[.string (bs (pcL sep l).1), .string (bs (pcL sep l).2.1), .bool (pcL sep l).2.2]
set_option maxHeartbeats 1000000 in
theorem pieceCut_any (s : ByteArray) (sep : UInt8) (w : World) (hs : s.size ≤ 65000) :
    Calls Try.prog 74 #[.string s, .int .u8 (sep.toNat : Int)] w fun e w' => e = .returned (pcV sep s.data.toList) ∧ Below w.heap.size w w' := by
  have hz : s.data.toList.length = s.size := by simp
  go_enter Try.func74, Try.ntmps74
  go_wp2
  go_loop [7, 11] (fun p i => ∃ k st : Nat, k ≤ s.size ∧ st ≤ 2 ∧ p = .int .i64 (st : Int) ∧ i = .int .i64 k ∧ Box (pcL sep s.data.toList = pcAt sep st s.data.toList k)) (fun _ i => s.size - (intOf i).toNat)
  case atStart => exact ⟨0, 0, Nat.zero_le _, by omega, rfl, rfl, box (pc_start _ _)⟩
  case round =>
    obtain ⟨k, st, hk, hst, rfl, rfl, HC⟩ := hrel
    by_cases hlt : k < s.size
    · have hlt' : k < s.data.toList.length := by rw [hz]; exact hlt
      have hbk : s.data.toList[k] = s[k] := rfl
      rcases h0 : ((st : Int) == 0) with _ | _
      · have n0 : st ≠ 0 := by intro h; subst h; simp at h0
        have HX := box (HC.out.trans (pc_step hlt' (fun h => n0 h.1)))
        have hle := stepQ_le st s[k]
        rw [hbk] at HX
        clear hbk n0
        go_wp2_with fail
        refine (after_any st s[k] _ hst).mono ?_; rintro e w1 ⟨rfl, rfl⟩
        go_wp2
        go_round
        case rel => exact ⟨k + 1, stepQ st s[k], by omega, hle, rfl, by go_num, HX⟩
        case measure => simp [intOf]; omega
      · have e0 : st = 0 := by simpa using h0
        subst e0
        rcases h44 : ((s[k].toNat : Int) == (sep.toNat : Int)) with _ | _
        · have n44 : s[k] ≠ sep := byte_no h44
          have HX := box (HC.out.trans (pc_step hlt' (fun h => n44 h.2)))
          have hle := stepQ_le 0 s[k]
          rw [hbk] at HX
          clear hbk n44
          go_wp2_with fail
          refine (after_any 0 s[k] _ hst).mono ?_; rintro e w1 ⟨rfl, rfl⟩
          go_wp2
          go_round
          case rel => exact ⟨k + 1, stepQ 0 s[k], by omega, hle, rfl, by go_num, HX⟩
          case measure => simp [intOf]; omega
        · have HX := box (HC.out.trans (pc_sep hlt' (byte_is h44)))
          clear hbk
          go_wp2
          go_quiet (fail)
          go_wp2
          go_ret3
          refine ⟨?_, below_drewN _ _⟩
          unfold pcV
          rw [HX.out]
          show Ending.returned (.tuple #[.string (s.extract 0 k), .string (s.extract (k + 1) s.size), .bool true]) = _
          rw [ext_bs, ext_bs, List.drop_zero, List.take_of_length_le (i := s.size) (by simp)]
    · have HX := box (HC.out.trans (pc_end (l := s.data.toList) (by rw [hz]; omega)))
      go_wp2
      go_ret3
      refine ⟨?_, Below.refl _ _⟩
      unfold pcV
      rw [HX.out]
      rfl
end
section
open Go.RowKit
theorem aTrim_is {s x : ByteArray} {w : World} (hs : s.size ≤ maxLen) (h : Box (bs (trimL s.data.toList) = x)) :
    Calls Try.prog 75 #[.string s] w fun e w' => e = .returned (.string x) ∧ w = w' :=
  (Trim_any s w hs).mono fun e w' ⟨h1, h2⟩ => ⟨by rw [h1, ← h.out]; rfl, by first | exact h2 | exact h2.symm⟩
def msr (m r : Value) : Nat := match m, r with | .bool true, .string t => t.size + 1 | _, _ => 0
end
end Go.Proofs.Ytgmfmlcpogbolaa.Asc
