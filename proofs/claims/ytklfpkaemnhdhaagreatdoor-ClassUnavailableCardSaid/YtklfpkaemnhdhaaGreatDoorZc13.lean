/- Merged texts: AccMat LisMine QvaLaid AccLaws KeyMem SelRef2 LanMem SelMem SelRef3 RnkLvl. -/
import Derived.Test.YtklfpkaemnhdhaaGreatDoorZc03
import Derived.Test.YtklfpkaemnhdhaaGreatDoorZc06
import Derived.Test.YtklfpkaemnhdhaaGreatDoorZc07
import Derived.Test.YtklfpkaemnhdhaaGreatDoorZc08
import Derived.Test.YtklfpkaemnhdhaaGreatDoorZc09
import Derived.Test.YtklfpkaemnhdhaaGreatDoorZc10
import Derived.Test.YtklfpkaemnhdhaaGreatDoorZc11
import Derived.Test.YtklfpkaemnhdhaaGreatDoorZc12
import Derived.LaidMore
import Derived.Laws.AppendOwnNone
import Derived.Lib.LaidTab
set_option linter.unusedVariables false
set_option linter.unusedSimpArgs false
set_option maxRecDepth 100000
namespace Go.Proofs.YtklfpkaemnhdhaaGreatDoor.Asc
section
open Go.RowKit
theorem mMed13_is {s : ByteArray} {a b : ByteArray} {L : List F} {q : Bool} {w : World} (hs : s.size ≤ 65000) (h : Box (ofM (mediaL s.data.toList) = (a, b, L) ∧ (mediaL s.data.toList).isSome = q)) :
    Calls Tryz.prog 120 #[.string s] w fun e w' => ∃ p cap, e = .returned (.tuple #[.agg #[.string a, .string b, .slice p L.length cap], .bool q]) ∧ Fs w' p L ∧ Below w.heap.size w w' :=
  (mMedia_any s w hs).mono fun e w' ⟨v, h1, h2, h3⟩ => by
    rw [h.out.1] at h1 h2
    rw [h.out.2] at h1
    obtain ⟨p, cap, rfl, hF, _⟩ := h2.fs
    exact ⟨p, cap, h1, hF, h3⟩
theorem mmatch13_is {a b c d : ByteArray} {p q : Option Addr} {cp cq : Nat} {K L : List F} {i : Int} {w : World} (hk : Box (K.length ≤ 65536)) (hl : Box (L.length ≤ 65536))
    (hzK : Box (∀ i (hi : i < K.length), K[i].1.size ≤ 65536 ∧ K[i].2.size ≤ 65536)) (hzL : Box (∀ i (hi : i < L.length), L[i].1.size ≤ 65536 ∧ L[i].2.size ≤ 65536)) (hK : Fs w p K) (hL : Fs w q L) (h : Box (matchI (a, b, K) (c, d, L) = i)) :
    Calls Tryz.prog 171 #[.agg #[.string a, .string b, .slice p K.length cp], .agg #[.string c, .string d, .slice q L.length cq]] w fun e w' => e = .returned (.int .i64 i) ∧ Below w.heap.size w w' :=
  (mMatch10_any a b c d p q cp cq K L w hk.out hl.out hzK hzL (box hK) (box hL)).mono fun e w' ⟨h1, h2⟩ => ⟨by rw [h1, h.out], h2⟩
set_option maxHeartbeats 1000000 in
theorem mMatMT_any (r v : ByteArray) (w : World) (hr : r.size ≤ 20000) (hv : v.size ≤ 20000) :
    Calls Tryz.prog 153 #[.string r, .string v] w fun e w' => e = .returned (.int .i64 (matchP 1 r.data.toList v.data.toList)) ∧ Below w.heap.size w w' := by
  obtain ⟨⟨a, b, K⟩, h1⟩ : ∃ m, ofM (rangeL r.data.toList) = m := ⟨_, rfl⟩
  obtain ⟨ok, h2⟩ : ∃ q, (rangeL r.data.toList).isSome = q := ⟨_, rfl⟩
  obtain ⟨⟨c, d, L⟩, h3⟩ : ∃ m, ofM (mediaL v.data.toList) = m := ⟨_, rfl⟩
  obtain ⟨is, h4⟩ : ∃ q, (mediaL v.data.toList).isSome = q := ⟨_, rfl⟩
  have HV := box (matchP_acc h1 h2 h3 h4)
  obtain ⟨k1, k2, _, _⟩ := range_len h1
  obtain ⟨l1, l2, _, _⟩ := media_len h3
  have lK : Box (K.length ≤ 65536) := box (by omega)
  have lL : Box (L.length ≤ 65536) := box (by omega)
  have zK : Box (∀ i (hi : i < K.length), K[i].1.size ≤ 65536 ∧ K[i].2.size ≤ 65536) := box (fun i hi => by have := k2 i hi; omega)
  have zL : Box (∀ i (hi : i < L.length), L[i].1.size ≤ 65536 ∧ L[i].2.size ≤ 65536) := box (fun i hi => by have := l2 i hi; omega)
  have H1 := box (And.intro h1 h2)
  have H2 := box (And.intro h3 h4)
  have hr6 : r.size ≤ 65000 := by omega
  have hv6 : v.size ≤ 65000 := by omega
  clear h1 h2 h3 h4 k1 k2 l1 l2
  go_enter Tryz.func153, Tryz.ntmps153
  go_wp2_with fail
  refine (mRange_is hr6 H1).mono ?_; rintro e w1 ⟨p1, c1, rfl, hO1, hb1⟩
  obtain ⟨p9, c9, hv9, hF1, _⟩ := hO1.fs
  cases hv9
  have hnw := below_new w1 (.cells #[.string a, .string b, .slice p1 K.length c1] 77)
  have C1 := box (C3.new (.string a) (.string b) (.slice p1 K.length c1) w1 77)
  have F1 := box (hF1.below hnw)
  have B1 := box (hb1.trans (hnw.mono hb1.size))
  clear hO1 hF1 hb1 hnw
  go_wp2_with fail
  refine (mMed13_is hv6 H2).mono ?_; rintro e w2 ⟨p2, c2, rfl, hF2, hb2⟩
  have hnw := below_new w2 (.cells #[.string c, .string d, .slice p2 L.length c2] 77)
  have N1 := C1.out.next hb2
  have F2 := box ((F1.out.below hb2).below hnw)
  have G2 := box (hF2.below hnw)
  have B2 := box (B1.out.trans ((hb2.trans (hnw.mono hb2.size)).mono B1.out.size))
  have hne : w1.heap.size ≠ w2.heap.size := Nat.ne_of_lt N1.lt
  obtain ⟨⟨s0, s1, s2⟩, _⟩ := N1.next hnw
  obtain ⟨⟨r0, r1, r2⟩, _⟩ := N1
  clear hF2 hb2 hnw
  cases ok with
  | false =>
    have HR : Box (matchP 1 r.data.toList v.data.toList = -1) := box (by rw [HV.out]; rfl)
    go_wp2
    go_ret
    exact ⟨by rw [HR.out]; rfl, B2.out⟩
  | true =>
    cases is with
    | false =>
      have HR : Box (matchP 1 r.data.toList v.data.toList = -1) := box (by rw [HV.out]; rfl)
      go_wp2
      go_ret
      exact ⟨by rw [HR.out]; rfl, B2.out⟩
    | true =>
      have HR : Box (matchI (a, b, K) (c, d, L) = matchP 1 r.data.toList v.data.toList) := box (by rw [HV.out]; rfl)
      go_wp2_with fail
      refine (mmatch13_is lK lL zK zL F2.out G2.out HR).mono ?_; rintro e w3 ⟨rfl, hb3⟩
      have B3 := box (B2.out.trans (hb3.mono B2.out.size))
      clear hb3 r0 r1 r2 s0 s1 s2
      go_wp2
      go_ret
      exact ⟨rfl, B3.out⟩
theorem mMatchC13_is {k i : Int} {r v : ByteArray} {w : World} (hk : InI64 k) (hr : r.size ≤ 20000) (hv : v.size ≤ 20000) (h : Box (matchC k r.data.toList v.data.toList = i)) :
    Calls Tryz.prog 174 #[.int .i64 k, .string r, .string v] w fun e w' => e = .returned (.int .i64 i) ∧ Below w.heap.size w w' :=
  (mMatchC_any k r v w hk (by omega) (by omega)).mono fun e w' ⟨h1, h2⟩ => ⟨by rw [h1, h.out], h2⟩
set_option maxHeartbeats 1000000 in
theorem mMatTok_any (k : Int) (r v : ByteArray) (w : World) (hk : k = 3 ∨ k = 4) (hr : r.size ≤ 20000) (hv : v.size ≤ 20000) :
    Calls Tryz.prog 155 #[.int .i64 k, .string r, .string v] w fun e w' => e = .returned (.int .i64 (matchP k r.data.toList v.data.toList)) ∧ Below w.heap.size w w' := by
  have HV := box (matchP_cod hk r.data.toList v.data.toList)
  have hki : InI64 k := by rcases hk with rfl | rfl <;> exact ⟨by omega, by omega⟩
  have hst := star13 (s := v)
  have hrm : r.size ≤ maxLen := by unfold maxLen; omega
  have hvm : v.size ≤ maxLen := by unfold maxLen; omega
  clear hk
  cases ht : tokL r.data.toList with
  | false =>
    have HT := box ht
    have HR : Box (matchP k r.data.toList v.data.toList = -1) := box (by rw [HV.out, ht]; rfl)
    clear ht hst
    go_enter Tryz.func155, Tryz.ntmps155
    go_wp2_with fail
    refine (aToken_is hrm HT).mono ?_; rintro e w1 ⟨rfl, rfl⟩
    go_wp2
    go_ret
    exact ⟨by rw [HR.out]; rfl, Below.refl _ _⟩
  | true =>
    have HT := box ht
    cases hu : tokL v.data.toList with
    | false =>
      have HU := box hu
      have HR : Box (matchP k r.data.toList v.data.toList = -1) := box (by rw [HV.out, ht, hu]; rfl)
      clear ht hu hst
      go_enter Tryz.func155, Tryz.ntmps155
      go_wp2_with fail
      refine (aToken_is hrm HT).mono ?_; rintro e w1 ⟨rfl, rfl⟩
      go_wp2_with fail
      refine (aToken_is hvm HU).mono ?_; rintro e w1 ⟨rfl, rfl⟩
      go_wp2
      go_ret
      exact ⟨by rw [HR.out]; rfl, Below.refl _ _⟩
    | true =>
      have HU := box hu
      by_cases hs : v.data.toList = [42]
      · have HR : Box (matchP k r.data.toList v.data.toList = -1) := box (by rw [HV.out, ht, hu, decide_eq_false (by simp [hs])]; rfl)
        rw [decide_eq_true hs] at hst
        clear ht hu hs
        go_enter Tryz.func155, Tryz.ntmps155
        go_wp2_with fail
        refine (aToken_is hrm HT).mono ?_; rintro e w1 ⟨rfl, rfl⟩
        go_wp2_with fail
        refine (aToken_is hvm HU).mono ?_; rintro e w1 ⟨rfl, rfl⟩
        go_wp2
        go_ret
        exact ⟨by rw [HR.out]; rfl, Below.refl _ _⟩
      · have HR : Box (matchC k r.data.toList v.data.toList = matchP k r.data.toList v.data.toList) := box (by rw [HV.out, ht, hu, decide_eq_true hs]; rfl)
        rw [decide_eq_false hs] at hst
        clear ht hu hs
        go_enter Tryz.func155, Tryz.ntmps155
        go_wp2_with fail
        refine (aToken_is hrm HT).mono ?_; rintro e w1 ⟨rfl, rfl⟩
        go_wp2_with fail
        refine (aToken_is hvm HU).mono ?_; rintro e w1 ⟨rfl, rfl⟩
        go_wp2_with fail
        refine (mMatchC13_is hki hr hv HR).mono ?_; rintro e w2 ⟨rfl, hb2⟩
        go_wp2
        go_ret
        exact ⟨rfl, hb2⟩
theorem mMatMT_is {r v : ByteArray} {i : Int} {w : World} (hr : r.size ≤ 20000) (hv : v.size ≤ 20000) (h : Box (matchP 1 r.data.toList v.data.toList = i)) :
    Calls Tryz.prog 153 #[.string r, .string v] w fun e w' => e = .returned (.int .i64 i) ∧ Below w.heap.size w w' :=
  (mMatMT_any r v w hr hv).mono fun e w' ⟨h1, h2⟩ => ⟨by rw [h1, h.out], h2⟩
theorem mMatTok_is {k i : Int} {r v : ByteArray} {w : World} (hk : k = 3 ∨ k = 4) (hr : r.size ≤ 20000) (hv : v.size ≤ 20000) (h : Box (matchP k r.data.toList v.data.toList = i)) :
    Calls Tryz.prog 155 #[.int .i64 k, .string r, .string v] w fun e w' => e = .returned (.int .i64 i) ∧ Below w.heap.size w w' :=
  (mMatTok_any k r v w hk hr hv).mono fun e w' ⟨h1, h2⟩ => ⟨by rw [h1, h.out], h2⟩
theorem mMatch13_any (k : Int) (r v : ByteArray) (w : World) (hk : InI64 k) (hr : r.size ≤ 20000) (hv : v.size ≤ 20000) :
    Calls Tryz.prog 124 #[.int .i64 k, .string r, .string v] w fun e w' => e = .returned (.int .i64 (matchP k r.data.toList v.data.toList)) ∧ Below w.heap.size w w' := by
  obtain ⟨i, hi⟩ : ∃ i, matchP k r.data.toList v.data.toList = i := ⟨_, rfl⟩
  rw [hi]
  by_cases h1 : k = 1
  · subst h1
    have HI := box hi
    clear hi
    go_enter Tryz.func124, Tryz.ntmps124
    go_wp2_with fail
    refine (mMatMT_is hr hv HI).mono ?_; rintro e w1 ⟨rfl, hb1⟩
    go_wp2
    go_ret
    exact ⟨rfl, hb1⟩
  · by_cases h2 : k = 2
    · subst h2
      have HI : Box (matchT r.data.toList v.data.toList = i) := box (by rw [← matchP_lan]; exact hi)
      have hr6 : r.size ≤ 65000 := by omega
      have hv6 : v.size ≤ 65000 := by omega
      clear h1 hi
      go_enter Tryz.func124, Tryz.ntmps124
      go_wp2_with fail
      refine (mMatchM_is hr6 hv6 HI).mono ?_; rintro e w1 ⟨rfl, hb1⟩
      go_wp2
      go_ret
      exact ⟨rfl, hb1⟩
    · have HI := box hi
      by_cases h3 : k = 3
      · subst h3
        clear h1 h2 hi
        go_enter Tryz.func124, Tryz.ntmps124
        go_wp2_with fail
        refine (mMatTok_is (.inl rfl) hr hv HI).mono ?_; rintro e w1 ⟨rfl, hb1⟩
        go_wp2
        go_ret
        exact ⟨rfl, hb1⟩
      · by_cases h4 : k = 4
        · subst h4
          clear h1 h2 h3 hi
          go_enter Tryz.func124, Tryz.ntmps124
          go_wp2_with fail
          refine (mMatTok_is (.inr rfl) hr hv HI).mono ?_; rintro e w1 ⟨rfl, hb1⟩
          go_wp2
          go_ret
          exact ⟨rfl, hb1⟩
        · have HV : Box (i = -1) := box (by rw [← hi]; exact matchP_no h1 h2 h3 h4 r.data.toList v.data.toList)
          have e1 : (k == 1) = false := by rw [beq_eq_false_iff_ne]; exact h1
          have e2 : (k == 2) = false := by rw [beq_eq_false_iff_ne]; exact h2
          have e3 : (k == 3) = false := by rw [beq_eq_false_iff_ne]; exact h3
          have e4 : (k == 4) = false := by rw [beq_eq_false_iff_ne]; exact h4
          clear h1 h2 h3 h4 hi
          go_enter Tryz.func124, Tryz.ntmps124
          go_wp2
          go_ret
          exact ⟨by rw [HV.out]; rfl, Below.refl _ _⟩
end
section
open Go.RowKit
theorem sJoin_any (a : Option Addr) (cap : Nat) (L : List ByteArray) (w : World) (hl : L.length ≤ 65536) (hc : L.length ≤ cap) (hz : Box (∀ x ∈ L, x.size ≤ 65536)) (hF : Box (Ss w a L)) :
    Calls Tryz.prog 71 #[.slice a L.length cap, .string ⟨#[44, 32]⟩] w fun e w' => e = .returned (.string (joinB L)) ∧ Below w.heap.size w w' := by
  match L, hl, hc, hz, hF with
  | [], _, _, _, _ => exact (Join0_any a cap w).mono fun e w' ⟨h1, h2⟩ => ⟨h1, h2 ▸ Below.refl _ _⟩
  | [x], _, _, _, hF =>
    obtain ⟨q, off, rfl, c0⟩ := hF.out 0 (Nat.zero_lt_succ 0)
    exact (Join1_any q off cap x w c0).mono fun e w' ⟨h1, h2⟩ => ⟨h1, h2 ▸ Below.refl _ _⟩
  | x :: y :: r, hl, hc, hz, hF =>
    obtain ⟨q, off, rfl, c0⟩ := hF.out 0 (Nat.zero_lt_succ _)
    exact JoinN_any q off cap (x :: y :: r) w (Nat.le_add_left 2 r.length) hl hc hz hF
theorem mJoin_any (a : Option Addr) (cap : Nat) (L : List ByteArray) (w : World) (hl : L.length ≤ 65536) (hc : L.length ≤ cap) (hz : Box (∀ x ∈ L, x.size ≤ 65536)) (hF : Box (Ss w a L)) :
    Calls Tryz.prog 80 #[.slice a L.length cap] w fun e w' => e = .returned (.string (joinB L)) ∧ Below w.heap.size w w' := by
  go_enter Tryz.func80, Tryz.ntmps80
  go_wp2_with fail
  refine (sJoin_any a cap L _ hl hc hz hF).mono ?_; rintro e w1 ⟨rfl, hb⟩
  have B := box hb
  clear hb
  go_wp2
  go_ret
  exact ⟨rfl, B.out⟩
end
section
open Go.RowKit
theorem cell_size {w : World} {a : Addr} {v : Value} (h : w.cell? a = some v) : a.block < w.heap.size := by
  refine Nat.lt_of_not_le fun hle => ?_
  unfold World.cell? at h
  rw [Array.getElem?_eq_none hle] at h
  cases h
theorem gWeights : Tryz.prog.globalNamed "variantproxy/qvalue.weights" = some 0 := by kernel_rfl
theorem tWeights : (Tryz.prog.globals[0]?).map (·.type) = some 163 := by kernel_rfl
theorem wts_of_tab {W : World} (h : Lib.TabIs Tryz.prog W "variantproxy/qvalue.weights" .i64 [100, 10, 1]) : Wts W := by
  have c0 : W.cell? ⟨0, 0, none⟩ = some (.int .i64 100) := h.cell gWeights 0 (by decide)
  have c1 : W.cell? ⟨0, 1, none⟩ = some (.int .i64 10) := h.cell gWeights 1 (by decide)
  have c2 : W.cell? ⟨0, 2, none⟩ = some (.int .i64 1) := h.cell gWeights 2 (by decide)
  exact ⟨c0, c1, c2, cell_size c0⟩
/-- the table stands first on the row's list -/
theorem wts_of_laid {rest : List (String × DataW Unit)} {W : World} (h : laidMet Tryz.prog (("variantproxy/qvalue.weights", Lib.tabData .i64 [100, 10, 1]) :: rest) W) : Wts W :=
  wts_of_tab (Lib.tabIs_of_head gWeights tWeights Tryz.underlying163 Tryz.underlying3 (by kernel_rfl) (by kernel_rfl) h)
end
section
open Go.RowKit
theorem mKind_is {n : ByteArray} {k : Int} {w : World} (hn : n.size ≤ 65536) (h : Box (kindN n = k)) :
    Calls Tryz.prog 107 #[.string n] w fun e w' => e = .returned (.int .i64 k) ∧ Below w.heap.size w w' :=
  (mKind_any n w hn).mono fun e w' ⟨h1, h2⟩ => ⟨by rw [h1, h.out], h2⟩
theorem vals_of {nm : ByteArray} {L : List F} (hv : Box (∀ x ∈ getL nm L, x.size ≤ 20000)) : Box (∀ x ∈ getL nm L, x.size ≤ 65000) := box (fun x hx => by have := hv.out x hx; omega)
theorem mems_of {nm : ByteArray} {L : List F} (hv : Box (∀ x ∈ getL nm L, x.size ≤ 20000)) : Box (∀ m ∈ allL nm L, m.length ≤ 20000) := box (fun m hm => by obtain ⟨x, hx, hle⟩ := all_mem hm; have := hv.out x hx; omega)
theorem mPrefs_is {k : Int} {a : Option Addr} {cap n : Nat} {L : List F} {X : List QP} {o : Bool} {w : World} (hk : InI64 k) (S : Box (Sm L)) (hv : Box (∀ x ∈ getL (nameK k) L, x.size ≤ 20000)) (hF : Fs w a L) (hW : Wts w) (h : Box (prefsV k L = X ∧ prefsO k L = o)) (hn : Box (L.length = n) := by exact box rfl) :
    Calls Tryz.prog 42 #[.int .i64 k, .slice a n cap] w fun e w' => ∃ p c, e = .returned (.tuple #[.slice p X.length c, .bool o]) ∧ Qs w' p X ∧ Below w.heap.size w w' := by
  have := mPrefs_any k a cap L w hk S (vals_of hv) (mems_of hv) (box hF) hW
  rw [h.out.1, h.out.2, hn.out] at this; exact this
theorem rPrefs_is {k : Int} {a : Option Addr} {cap n : Nat} {L : List F} {X : List QP} {o : Bool} {w : World} (hk : InI64 k) (S : Box (Sm L)) (hv : Box (∀ x ∈ getL (nameK k) L, x.size ≤ 20000)) (hF : Fs w a L) (h : Box (prefsV k L = X ∧ prefsO k L = o)) (hn : Box (L.length = n) := by exact box rfl) :
    Calls Tryz.prog 32 #[.int .i64 k, .slice a n cap] w fun e w' => ∃ p c, e = .returned (.tuple #[.slice p X.length c, .bool o]) ∧ Qs w' p X ∧ Below w.heap.size w w' := by
  have := rPrefs_any k a cap L w hk S (vals_of hv) (mems_of hv) (box hF)
  rw [h.out.1, h.out.2, hn.out] at this
  refine this.mono fun e w' ⟨v, h1, h2, h3⟩ => ?_
  obtain ⟨p, c, rfl, hQ, _⟩ := h2.qs
  exact ⟨p, c, h1, hQ, h3⟩
theorem in13 {n : Int} (h : (Lit.int .i64 n).wf = true) : InI64 n := by
  unfold InI64
  simp [Lit.wf, IntKind.min, IntKind.max, IntKind.bits, IntKind.signed] at h
  omega
theorem prefs13_len (k : Int) (L : List F) : (prefsV k L).length ≤ 64 := by
  unfold prefsV
  split
  · unfold prefsL
    refine Nat.le_trans (List.length_filterMap_le _ _) ?_
    unfold allL; rw [List.length_take]; omega
  · simp
end
section
open Go.RowKit Go.ChangeShapes Go.WideShapes Go.Deep
def Kss (w : World) (a : Option Addr) (L : List KY) : Prop :=
  ∀ i (h : i < L.length), ∃ g off v, a = some ⟨g, off, none⟩ ∧ w.cell? ⟨g, off + i, none⟩ = some v ∧ SsV w v L[i]
theorem Kss.below {w w' : World} {a : Option Addr} {L : List KY} (h : Kss w a L) (hb : Below w.heap.size w w') : Kss w' a L := fun i hi => by
  obtain ⟨g, off, v, e, c0, hs⟩ := h i hi
  exact ⟨g, off, v, e, (hb.cell (cell_lt c0)).trans c0, hs.below hb⟩
def CellsK (w : World) (B : Nat) (cs : List Value) (L : List KY) : Prop :=
  cs.length = L.length ∧ (∀ u ∈ cs, u.oneCell' = true) ∧ ∀ i (h : i < L.length), ∃ u, cs[i]? = some u ∧ OwnS w B u L[i]
def OwnK (w : World) (B : Nat) (v : Value) (L : List KY) : Prop := ∃ cs, w.ownsRow B 29 1 v L.length cs ∧ CellsK w B cs L
theorem OwnK.nil (w : World) (B : Nat) : OwnK w B (.slice none 0 0) [] := ⟨[], World.ownsRow_nil _ _ _ _, rfl, by simp, fun i h => absurd h (by simp)⟩
theorem CellsK.next {w w' : World} {B : Nat} {cs : List Value} {L : List KY} (h : CellsK w B cs L) (hb : Below w.heap.size w w') : CellsK w' B cs L :=
  ⟨h.1, h.2.1, fun i hi => by obtain ⟨u, h2, h3⟩ := h.2.2 i hi; exact ⟨u, h2, own_below h3 hb⟩⟩
theorem OwnK.next {w w' : World} {B : Nat} {v : Value} {L : List KY} (h : OwnK w B v L) (hb : Below w.heap.size w w') : OwnK w' B v L := by
  obtain ⟨cs, h1, h2⟩ := h
  exact ⟨cs, own_below h1 hb, h2.next hb⟩
theorem own_grownK {w w' : World} {B n : Nat} {v u : Value} {cs : List Value} {V : List ByteArray} (hv : w.ownsRow B 29 1 v n cs) (hu : OwnS w B u V) (hg : w.grownBy w' v.ownBlock) : OwnS w' B u V := by
  refine ⟨hu.1, ?_⟩
  rcases hu.2 with q | ⟨g, cap, cur, hv2, hB, hgg, r⟩
  · exact .inl q
  · refine .inr ⟨g, cap, cur, hv2, hB, ?_, r⟩
    rw [hg.block g (heap_lt hgg) (fun e => ?_)]
    · exact hgg
    · rcases hv.2 with ⟨rfl, _⟩ | ⟨g2, cap2, cur2, rfl, _, hg2, _⟩
      · simp [Value.ownBlock] at e
      · simp [Value.ownBlock] at e
        subst e
        rw [hgg] at hg2
        simp at hg2
theorem CellsK.grown {w w' : World} {B n : Nat} {v : Value} {xs cs : List Value} {L : List KY} (h : CellsK w B cs L) (hv : w.ownsRow B 29 1 v n xs) (hg : w.grownBy w' v.ownBlock) : CellsK w' B cs L :=
  ⟨h.1, h.2.1, fun i hi => by obtain ⟨u, h2, h3⟩ := h.2.2 i hi; exact ⟨u, h2, own_grownK hv h3 hg⟩⟩
theorem CellsK.more {w : World} {B : Nat} {cs : List Value} {L : List KY} {u : Value} {V : List ByteArray} (h : CellsK w B cs L) (hu : OwnS w B u V) : CellsK w B (cs ++ [u]) (L ++ [V]) := by
  have hone : u.oneCell' = true := by obtain ⟨a, c, e, _⟩ := hu.ss; rw [e]; rfl
  refine ⟨by rw [List.length_append, List.length_append, h.1]; rfl, fun x hx => ?_, fun i hi => ?_⟩
  · rcases List.mem_append.1 hx with q | q
    · exact h.2.1 x q
    · rw [List.mem_singleton.1 q]; exact hone
  · by_cases e : i < L.length
    · obtain ⟨y, h2, h3⟩ := h.2.2 i e
      have hl := h.1
      rw [List.getElem_append_left e, List.getElem?_append_left (by omega)]
      exact ⟨y, h2, h3⟩
    · have hie : i = L.length := by rw [List.length_append] at hi; simp at hi; omega
      subst hie
      have hl := h.1
      rw [List.getElem_append_right (Nat.le_refl _), List.getElem?_append_right (by omega)]
      rw [show L.length - cs.length = 0 from by omega]
      simp only [Nat.sub_self]
      exact ⟨u, rfl, hu⟩
/-- two slices that do not lie in one block -/
def ApartK (v z : Value) : Prop := ∀ k, v.ownBlock = some k → z.ownBlock ≠ some k
theorem OwnK.lt {w : World} {B : Nat} {v : Value} {L : List KY} (h : OwnK w B v L) (k : Nat) (hk : v.ownBlock = some k) : k < w.heap.size := by
  obtain ⟨cs, h1, _⟩ := h
  exact (World.ownsRow.lt h1 k hk).2
theorem OwnK.grown {w w' : World} {B n : Nat} {v z : Value} {xs : List Value} {K : List KY} (h : OwnK w B z K) (hv : w.ownsRow B 29 1 v n xs) (hA : ApartK v z) (hg : w.grownBy w' v.ownBlock) : OwnK w' B z K := by
  obtain ⟨cs, h1, h2⟩ := h
  refine ⟨cs, ⟨h1.1, ?_⟩, h2.grown hv hg⟩
  rcases h1.2 with q | ⟨g, cap, cur, hv2, hB, hgg, r⟩
  · exact .inl q
  · refine .inr ⟨g, cap, cur, hv2, hB, ?_, r⟩
    rw [hg.block g (heap_lt hgg) (fun e => ?_)]
    · exact hgg
    · exact hA g e.symm (by rw [hv2]; rfl)
end
section
open Go.RowKit
/-- fields small enough -/
def FitL (L : List F) : Prop := Sm L ∧ ∀ nm, ∀ x ∈ getL nm L, x.size ≤ 9000
theorem kindN_in (n : ByteArray) : 0 ≤ kindN n ∧ kindN n ≤ 4 := by
  unfold kindN
  split
  · omega
  · split
    · omega
    · split
      · omega
      · split <;> omega
theorem kindN_i64 (n : ByteArray) : InI64 (kindN n) := by
  have := kindN_in n
  unfold InI64
  omega
theorem prefs17_len (k : Int) (L : List F) : (prefsV k L).length ≤ 65536 := by have := prefs13_len k L; omega
theorem prefs17_small {k : Int} {L : List F} (h : ∀ nm, ∀ x ∈ getL nm L, x.size ≤ 9000) : ∀ i (hi : i < (prefsV k L).length), (prefsV k L)[i].1.size ≤ 20000 := by
  intro i hi
  have hp := List.getElem_mem hi
  obtain ⟨p, hpe⟩ : ∃ p, (prefsV k L)[i] = p := ⟨_, rfl⟩
  rw [hpe] at hp ⊢
  unfold prefsV at hp
  split at hp
  · unfold prefsL at hp
    obtain ⟨m, hm, hmp⟩ := List.mem_filterMap.1 hp
    obtain ⟨x, hx, hle⟩ := all_mem hm
    have h1 := h _ x hx
    have h2 := (again hmp).2.2
    omega
  · cases hp
theorem FitL.vals {L : List F} (h : FitL L) (nm : ByteArray) : ∀ x ∈ getL nm L, x.size ≤ 20000 := fun x hx => by have := h.2 nm x hx; omega
theorem rPrefs17_is {k : Int} {a : Option Addr} {cap n : Nat} {L : List F} {X : List QP} {o : Bool} {w : World} (hk : InI64 k) (FL : Box (FitL L)) (hF : Fs w a L) (h : Box (prefsV k L = X ∧ prefsO k L = o)) (hn : Box (L.length = n) := by exact box rfl) :
    Calls Tryz.prog 32 #[.int .i64 k, .slice a n cap] w fun e w' => ∃ p c, e = .returned (.tuple #[.slice p X.length c, .bool o]) ∧ Qs w' p X ∧ Below w.heap.size w w' :=
  rPrefs_is hk (box FL.out.1) (box (FL.out.vals _)) hF h hn
theorem rAll17_is {a : Option Addr} {cap n : Nat} {L : List F} {nm : ByteArray} {M : List ByteArray} {w : World} (FL : Box (FitL L)) (hm : nm.size ≤ 65536) (hF : Fs w a L) (h : Box (allB nm L = M)) (hn : Box (L.length = n) := by exact box rfl) :
    Calls Tryz.prog 30 #[.slice a n cap, .string nm] w fun e w' => ∃ v, e = .returned v ∧ OwnS w' w.heap.size v M ∧ Below w.heap.size w w' := by
  have := rAll_any a cap L nm w (box FL.out.1) (vals_of (box (FL.out.vals nm))) (box hm) (box hF)
  rw [h.out, hn.out] at this; exact this
theorem allB_len (nm : ByteArray) (L : List F) : (allB nm L).length ≤ 64 := by unfold allB allL; rw [List.length_map, List.length_take]; omega
theorem allB_small {nm : ByteArray} {L : List F} (hv : ∀ x ∈ getL nm L, x.size ≤ 20000) : ∀ x ∈ allB nm L, x.size ≤ 65536 := by
  intro y hy
  unfold allB at hy
  obtain ⟨m, hm, rfl⟩ := List.mem_map.1 hy
  obtain ⟨x, hx, hle⟩ := all_mem hm
  have := hv x hx
  rw [bs_size]; omega
theorem ss_one17 (x : ByteArray) (w : World) : OwnS (w.alloc (.cells #[.string x] 9)) w.heap.size (.slice (some ⟨w.heap.size, 0, none⟩) 1 1) [x] := by
  refine ⟨rfl, .inr ⟨w.heap.size, 1, #[.string x], rfl, Nat.le_refl _, heap_alloc_new w _, Nat.le_refl _, by unfold maxLen; omega, rfl, rfl⟩⟩
end
section
open Go.RowKit
def intV (n : Nat) : Value := .int .i64 (n : Int)
/-- ints at an address -/
def Is (w : World) (a : Option Addr) (L : List Nat) : Prop := ∀ i (h : i < L.length), ∃ g off, a = some ⟨g, off, none⟩ ∧ w.cell? ⟨g, off + i, none⟩ = some (intV L[i])
theorem Is.below {w w' : World} {a : Option Addr} {L : List Nat} (h : Is w a L) (hb : Below w.heap.size w w') : Is w' a L := fun i hi => by
  obtain ⟨g, off, e, c0⟩ := h i hi
  exact ⟨g, off, e, (hb.cell (cell_lt c0)).trans c0⟩
def OwnI (w : World) (B : Nat) (v : Value) (L : List Nat) : Prop := w.ownsRow B 3 1 v L.length (L.map intV)
theorem OwnI.nil (w : World) (B : Nat) : OwnI w B (.slice none 0 0) [] := World.ownsRow_nil _ _ _ _
theorem OwnI.is {w : World} {B : Nat} {v : Value} {L : List Nat} (h : OwnI w B v L) : ∃ a cap, v = .slice a L.length cap ∧ Is w a L ∧ L.length ≤ cap := by
  rcases h.2 with ⟨rfl, hn⟩ | ⟨g, cap, cur, rfl, hB, hg, hc, hm, hs, ht⟩
  · exact ⟨none, 0, by rw [hn], fun i hi => by omega, by omega⟩
  · refine ⟨_, cap, rfl, fun i hi => ⟨g, 0, rfl, ?_⟩, hc⟩
    have q0 : (L.map intV)[i]? = some (intV L[i]) := by simp [hi]
    rw [← ht, List.getElem?_take, if_pos (by omega)] at q0
    simp only [World.cell?, hg]
    simpa using q0
/-- a row of bools at a block's start -/
def Bo (w : World) (g : Nat) (U : List Bool) : Prop := ∀ i (h : i < U.length), w.cell? ⟨g, i, none⟩ = some (.bool U[i]) ∧ w.frozen? ⟨g, i, none⟩ = false
theorem Bo.below {w w' : World} {g B : Nat} {U : List Bool} (h : Bo w g U) (hb : Below B w w') (hg : g < B) : Bo w' g U := fun i hi =>
  ⟨(hb.cell hg).trans (h i hi).1, (hb.frozen hg).trans (h i hi).2⟩
theorem Bo.set {w : World} {g k : Nat} {U : List Bool} (h : Bo w g U) (hk : k < U.length) (b : Bool) : Bo (w.setCell ⟨g, k, none⟩ (.bool b)) g (U.set k b) := fun i hi => by
  have hi2 : i < U.length := by simpa using hi
  refine ⟨?_, by rw [World.frozen?_setCell]; exact (h i hi2).2⟩
  by_cases e : i = k
  · subst e
    rw [World.cell?_setCell_same (h := (h i hi2).1)]
    simp
  · rw [World.cell?_setCell_other _ _ _ _ (by intro q; cases q; exact e rfl), (h i hi2).1, List.getElem_set_ne (Ne.symm e)]
theorem Bo.new (w : World) (n : Nat) (t : TypeId) : Bo (w.alloc (.cells (madeCells #[.bool false] n) t)) w.heap.size (List.replicate n false) := fun i hi => by
  have hn : i < n := by simpa using hi
  refine ⟨?_, World.frozen?_alloc_at _ _ _ _ rfl⟩
  rw [World.cell?_alloc_at (hn := rfl), ← Array.getElem?_toList, toList_madeCells_one]
  simp [hn, List.getElem?_replicate]
end
section
open Go.RowKit
theorem OwnK.at {w : World} {B : Nat} {v : Value} {L : List KY} (h : OwnK w B v L) (i : Nat) (hi : i < L.length) : ∃ g c u, v = .slice (some ⟨g, 0, none⟩) L.length c ∧ w.cell? ⟨g, i, none⟩ = some u ∧ OwnS w B u L[i] := by
  obtain ⟨cs, h, hC⟩ := h
  rcases h.2 with ⟨rfl, hn⟩ | ⟨g, cap, cur, rfl, hB, hg, hc, hm, hs, ht⟩
  · omega
  · obtain ⟨u, q1, q2⟩ := hC.2.2 i hi
    have hl := hC.1
    rw [← ht, List.getElem?_take, if_pos (by omega)] at q1
    refine ⟨g, cap, u, rfl, ?_, q2⟩
    simp only [World.cell?, hg]; simpa using q1
theorem OwnK.len {w : World} {B : Nat} {v : Value} {L : List KY} (h : OwnK w B v L) : L.length ≤ maxLen := by
  obtain ⟨cs, h, hC⟩ := h
  rcases h.2 with ⟨rfl, hn⟩ | ⟨g, cap, cur, rfl, hB, hg, hc, hm, hs, ht⟩
  · omega
  · omega
/-- an empty key is nil -/
def NilK (w : World) (v : Value) (L : List KY) : Prop := ∀ g n c i (h : i < L.length), v = .slice (some ⟨g, 0, none⟩) n c → L[i] = [] → w.cell? ⟨g, i, none⟩ = some (.slice none 0 0)
theorem NilK.below {w w' : World} {v : Value} {L : List KY} (h : NilK w v L) (hb : Below w.heap.size w w') : NilK w' v L := fun g n c i hi hv h0 => by
  have := h g n c i hi hv h0
  exact (hb.cell (cell_lt this)).trans this
section
variable {ops : Array Oper} {o : Oper} {a : Act} {K : Act → World → Prop} {Q : Exit → Act → World → Prop} {E : Prop}
end
def Io (w : World) (g : Nat) (D : List Nat) : Prop := ∀ i (h : i < D.length), w.cell? ⟨g, i, none⟩ = some (intV D[i]) ∧ w.frozen? ⟨g, i, none⟩ = false
theorem Io.below {w w' : World} {g B : Nat} {D : List Nat} (h : Io w g D) (hb : Below B w w') (hg : g < B) : Io w' g D := fun i hi =>
  ⟨(hb.cell hg).trans (h i hi).1, (hb.frozen hg).trans (h i hi).2⟩
theorem Io.set {w : World} {g k : Nat} {D : List Nat} (h : Io w g D) (hk : k < D.length) (d : Nat) : Io (w.setCell ⟨g, k, none⟩ (intV d)) g (D.set k d) := fun i hi => by
  have hi2 : i < D.length := by simpa using hi
  refine ⟨?_, by rw [World.frozen?_setCell]; exact (h i hi2).2⟩
  by_cases e : i = k
  · subst e
    rw [World.cell?_setCell_same (h := (h i hi2).1)]
    simp
  · rw [World.cell?_setCell_other _ _ _ _ (by intro q; cases q; exact e rfl), (h i hi2).1, List.getElem_set_ne (Ne.symm e)]
theorem Io.new (w : World) (n : Nat) (t : TypeId) : Io (w.alloc (.cells (madeCells #[.int .i64 0] n) t)) w.heap.size (List.replicate n 0) := fun i hi => by
  have hn : i < n := by simpa using hi
  refine ⟨?_, World.frozen?_alloc_at _ _ _ _ rfl⟩
  rw [World.cell?_alloc_at (hn := rfl), ← Array.getElem?_toList, toList_madeCells_one]
  simp [hn, List.getElem?_replicate, intV]
end
section
open Go.RowKit
/-- axes small enough -/
def FitX (X : List AX) : Prop := ∀ i (h : i < X.length), X[i].1.size ≤ 20000 ∧ X[i].2.length ≤ 65000 ∧ ∀ j (hj : j < X[i].2.length), X[i].2[j].size ≤ 20000
theorem FitX.small {X : List AX} (h : FitX X) : smallA X := fun i hi => by
  obtain ⟨h1, h2, h3⟩ := h i hi
  exact ⟨by omega, by omega, fun j hj => by have := h3 j hj; omega⟩
theorem rValid17_is {a : Option Addr} {cap n : Nat} {X : List AX} {q : Bool} {w : World} (hl : X.length ≤ 65536) (hz : Box (FitX X)) (hF : Axs w a X) (h : Box (validX X = q)) (hn : Box (X.length = n)) :
    Calls Tryz.prog 23 #[.slice a n cap] w fun e w' => e = .returned (.bool q) ∧ Below w.heap.size w w' := by
  have := rValid_any a cap X w hl (box hz.out.small) (box hF)
  rw [h.out, hn.out] at this; exact this
end
section
abbrev LV := Int × List ByteArray
def insV (p : Int) (x : ByteArray) : List LV → List LV
  | [] => [(p, [x])]
  | t :: r => if t.1 < p then (p, [x]) :: t :: r else if t.1 = p then (t.1, t.2 ++ [x]) :: r else t :: insV p x r
def DescV : List LV → Prop
  | [] => True
  | t :: r => (∀ s ∈ r, s.1 < t.1) ∧ DescV r
def flatV (l : List LV) : List ByteArray := l.flatMap (·.2)
def GoodV (q : ByteArray → Int) (l : List LV) : Prop := ∀ t ∈ l, t.2 ≠ [] ∧ ∀ y ∈ t.2, q y = t.1
def stepV (q : ByteArray → Int) (acc : List LV) (v : ByteArray) : List LV := if 0 < q v then insV (q v) v acc else acc
def rankV (q : ByteArray → Int) (V : List ByteArray) : List LV := V.foldl (stepV q) []
theorem insV_mem {p : Int} {x : ByteArray} {s : LV} : ∀ {l : List LV}, s ∈ insV p x l → s.1 = p ∨ s ∈ l
  | [], h => by simp [insV] at h; exact .inl (by rw [h])
  | t :: r, h => by
    unfold insV at h
    split at h
    · rcases List.mem_cons.1 h with h | h
      · exact .inl (by rw [h])
      · exact .inr h
    · split at h
      · rename_i he
        rcases List.mem_cons.1 h with h | h
        · exact .inl (by rw [h]; exact he)
        · exact .inr (by simp [h])
      · rcases List.mem_cons.1 h with h | h
        · exact .inr (by simp [h])
        · rcases insV_mem h with h | h
          · exact .inl h
          · exact .inr (by simp [h])
theorem insV_desc {p : Int} {x : ByteArray} : ∀ {l : List LV}, DescV l → DescV (insV p x l)
  | [], _ => ⟨fun s hs => (by cases hs), trivial⟩
  | t :: r, h => by
    unfold insV
    split
    · rename_i hlt
      refine ⟨fun s hs => ?_, h⟩
      rcases List.mem_cons.1 hs with rfl | hs
      · exact hlt
      · exact Int.lt_trans (h.1 s hs) hlt
    · split
      · exact ⟨h.1, h.2⟩
      · rename_i h1 h2
        refine ⟨fun s hs => ?_, insV_desc h.2⟩
        rcases insV_mem hs with e | hs
        · omega
        · exact h.1 s hs
theorem insV_good {q : ByteArray → Int} {p : Int} {x : ByteArray} (hx : q x = p) : ∀ {l : List LV}, GoodV q l → GoodV q (insV p x l)
  | [], _ => fun t ht => by
    simp [insV] at ht; subst ht
    exact ⟨by simp, fun y hy => by simp at hy; rw [hy]; exact hx⟩
  | t :: r, h => by
    unfold insV
    split
    · intro s hs
      rcases List.mem_cons.1 hs with rfl | hs
      · exact ⟨by simp, fun y hy => by simp at hy; rw [hy]; exact hx⟩
      · exact h s hs
    · split
      · rename_i he
        intro s hs
        rcases List.mem_cons.1 hs with rfl | hs
        · refine ⟨by simp, fun y hy => ?_⟩
          rcases List.mem_append.1 hy with hy | hy
          · exact (h t (by simp)).2 y hy
          · simp at hy; rw [hy, hx]; exact he.symm
        · exact h s (by simp [hs])
      · intro s hs
        rcases List.mem_cons.1 hs with rfl | hs
        · exact h s (by simp)
        · exact insV_good hx (fun t ht => h t (by simp [ht])) s hs
section
variable {q : ByteArray → Int}
theorem insR_front {x : ByteArray} : ∀ {A B : List ByteArray}, (∀ y ∈ A, q x ≤ q y) → insR q x (A ++ B) = A ++ insR q x B
  | [], B, _ => rfl
  | y :: A, B, h => by
    show insR q x (y :: (A ++ B)) = y :: (A ++ insR q x B)
    have := h y (by simp)
    rw [insR, if_neg (by omega), insR_front (fun z hz => h z (by simp [hz]))]
theorem insR_first {x : ByteArray} : ∀ {B : List ByteArray}, (∀ y ∈ B, q y < q x) → insR q x B = x :: B
  | [], _ => rfl
  | y :: B, h => by rw [insR, if_pos (h y (by simp))]
theorem flat_ins {p : Int} {x : ByteArray} (hx : q x = p) : ∀ {l : List LV}, DescV l → GoodV q l → flatV (insV p x l) = insR q x (flatV l)
  | [], _, _ => rfl
  | t :: r, h, hg => by
    have hall : ∀ s ∈ r, ∀ y ∈ s.2, q y = s.1 ∧ s.1 < t.1 := fun s hs y hy => ⟨(hg s (by simp [hs])).2 y hy, h.1 s hs⟩
    have ht : ∀ y ∈ t.2, q y = t.1 := (hg t (by simp)).2
    have hfl : ∀ y ∈ flatV r, q y < t.1 := fun y hy => by
      obtain ⟨s, hs, hy⟩ := List.mem_flatMap.1 hy
      have := hall s hs y hy; omega
    unfold insV
    split
    · rename_i hlt
      show x :: flatV (t :: r) = _
      rw [insR_first]
      intro y hy
      rcases List.mem_append.1 (show y ∈ t.2 ++ flatV r from hy) with hy | hy
      · have := ht y hy; omega
      · have := hfl y hy; omega
    · split
      · rename_i he
        show (t.2 ++ [x]) ++ flatV r = insR q x (t.2 ++ flatV r)
        rw [insR_front (fun y hy => by have := ht y hy; omega), insR_first (fun y hy => by have := hfl y hy; omega)]
        simp
      · rename_i h1 h2
        show t.2 ++ flatV (insV p x r) = insR q x (t.2 ++ flatV r)
        rw [insR_front (fun y hy => by have := ht y hy; omega), flat_ins hx h.2 (fun s hs => hg s (by simp [hs]))]
theorem rankV_next {V : List ByteArray} {j : Nat} (h : j < V.length) : rankV q (V.take (j + 1)) = stepV q (rankV q (V.take j)) V[j] := by
  unfold rankV
  rw [List.take_succ_eq_append_getElem h, List.foldl_append]; rfl
theorem rankV_all : ∀ (n : Nat) (V : List ByteArray), V.length = n → DescV (rankV q V) ∧ GoodV q (rankV q V) ∧ flatV (rankV q V) = rankQ q V
  | 0, V, h => by
    have : V = [] := List.length_eq_zero_iff.1 h
    subst this
    exact ⟨trivial, fun t ht => (by cases ht), rfl⟩
  | n + 1, V, h => by
    obtain ⟨W, x, rfl⟩ : ∃ W x, V = W ++ [x] := by
      have hne : V ≠ [] := by intro e; subst e; simp at h
      exact ⟨V.dropLast, V.getLast hne, (List.dropLast_concat_getLast hne).symm⟩
    obtain ⟨i1, i2, i3⟩ := rankV_all n W (by simpa using h)
    have e : rankV q (W ++ [x]) = stepV q (rankV q W) x := by unfold rankV; rw [List.foldl_append]; rfl
    rw [e, rank_snoc]
    unfold stepV stepR
    by_cases hx : 0 < q x
    · rw [if_pos hx, if_pos hx]
      exact ⟨insV_desc i1, insV_good rfl i2, by rw [flat_ins rfl i1 i2, i3]⟩
    · rw [if_neg hx, if_neg hx]
      exact ⟨i1, i2, i3⟩
end
/-- the levels ahead are greater -/
theorem insV_behind {p : Int} {x : ByteArray} : ∀ {A B : List LV}, (∀ t ∈ A, p < t.1) → insV p x (A ++ B) = A ++ insV p x B
  | [], B, _ => rfl
  | t :: A, B, h => by
    show insV p x (t :: (A ++ B)) = t :: (A ++ insV p x B)
    have := h t (by simp)
    rw [insV, if_neg (by omega), if_neg (by omega), insV_behind (fun z hz => h z (by simp [hz]))]
theorem insV_new {p : Int} {x : ByteArray} : ∀ {B : List LV}, (∀ t ∈ B, t.1 < p) → insV p x B = (p, [x]) :: B
  | [], _ => rfl
  | t :: B, h => by rw [insV, if_pos (h t (by simp))]
theorem insV_old {p : Int} {x : ByteArray} {vs : List ByteArray} {B : List LV} : insV p x ((p, vs) :: B) = (p, vs ++ [x]) :: B := by
  rw [insV, if_neg (by omega), if_pos rfl]
theorem descV_at : ∀ {l : List LV}, DescV l → ∀ i j (hi : i < l.length) (hj : j < l.length), i < j → l[j].1 < l[i].1
  | t :: r, h, 0, j + 1, _, hj, _ => h.1 _ (List.getElem_mem _)
  | t :: r, h, i + 1, j + 1, hi, hj, hij => by
    have := descV_at h.2 i j (by simpa using hi) (by simpa using hj) (by omega)
    exact this
theorem flatV_len {V : List ByteArray} {q : ByteArray → Int} : (flatV (rankV q V)).length ≤ V.length := by
  rw [(rankV_all V.length V rfl).2.2, rank_len]
  exact List.countP_le_length
theorem rankV_len {V : List ByteArray} {q : ByteArray → Int} : (rankV q V).length ≤ V.length := by
  refine Nat.le_trans ?_ (flatV_len (q := q))
  have hg := (rankV_all (q := q) V.length V rfl).2.1
  generalize rankV q V = l at hg
  induction l with
  | nil => simp
  | cons t r ih =>
    have h1 := ih (fun s hs => hg s (by simp [hs]))
    have h2 : 0 < t.2.length := List.length_pos_iff.2 (hg t (by simp)).1
    have e : flatV (t :: r) = t.2 ++ flatV r := rfl
    rw [e, List.length_append, List.length_cons]; omega
end
end Go.Proofs.YtklfpkaemnhdhaaGreatDoor.Asc
