/- Merged texts: RnkLaws RnkLaws3 PrfApp. -/
import Derived.Test.YtgmfmlcpogbolaaM05
import Derived.Test.YtgmfmlcpogbolaaM09
import Derived.Test.YtgmfmlcpogbolaaM10
import Derived.Test.YtgmfmlcpogbolaaM13
import Derived.BigQuiet
import Derived.Deep.QuietTactic
set_option linter.unusedVariables false
set_option linter.unusedSimpArgs false
set_option maxRecDepth 100000
namespace Go.Proofs.Ytgmfmlcpogbolaa.Asc
section
open Go.RowKit
theorem rQuality_is {k i : Int} {a : Option Addr} {n cap : Nat} {L : List QP} {present : Bool} {v : ByteArray} {w : World} (hk : InI64 k) (hn : Box (L.length = n)) (hl : Box (L.length ≤ 65536)) (hz : Box (∀ i (hi : i < L.length), L[i].1.size ≤ 20000)) (hv : v.size ≤ 20000) (hF : Qs w a L) (h : Box (qualR k L present v.data.toList = i)) :
    Calls Try.prog 9 #[.int .i64 k, .slice a n cap, .bool present, .string v] w fun e w' => e = .returned (.int .i64 i) ∧ Below w.heap.size w w' := by
  have := rQuality_any k a cap L present v w hk hl.out hz hv (box hF)
  rw [hn.out, h.out] at this; exact this
theorem mQuality_is {k i : Int} {a : Option Addr} {n cap : Nat} {L : List QP} {present : Bool} {v : ByteArray} {w : World} (hk : InI64 k) (hn : Box (L.length = n)) (hl : Box (L.length ≤ 65536)) (hz : Box (∀ i (hi : i < L.length), L[i].1.size ≤ 20000)) (hv : v.size ≤ 20000) (hF : Qs w a L) (h : Box (qualR k L present v.data.toList = i)) :
    Calls Try.prog 8 #[.int .i64 k, .slice a n cap, .bool present, .string v] w fun e w' => e = .returned (.int .i64 i) ∧ Below w.heap.size w w' := by
  have := mQuality_any k a cap L present v w hk hl.out hz hv (box hF)
  rw [hn.out, h.out] at this; exact this
theorem mRank_is {k : Int} {a b : Option Addr} {n m cap cb : Nat} {L : List QP} {present : Bool} {V R : List ByteArray} {w : World} (hk : InI64 k) (hn : Box (L.length = n)) (hl : Box (L.length ≤ 65536)) (hz : Box (∀ i (hi : i < L.length), L[i].1.size ≤ 20000)) (hm : Box (V.length = m)) (hvl : Box (V.length ≤ 65536)) (hvz : Box (∀ i (hi : i < V.length), V[i].size ≤ 20000)) (hF : Qs w a L) (hS : Ss w b V) (h : Box (rankQ (fun v => qualR k L present v.data.toList) V = R)) :
    Calls Try.prog 12 #[.int .i64 k, .slice a n cap, .bool present, .slice b m cb] w fun e w' => ∃ p c, e = .returned (.slice p R.length c) ∧ Ss w' p R ∧ Below w.heap.size w w' := by
  have := mRank_any k a b cap cb L present V w hk hl.out hz hvl.out hvz (box hF) (box hS)
  rw [hn.out, hm.out, h.out] at this; exact this
theorem same14_is {a b : Option Addr} {n m ca cb : Nat} {K L : List ByteArray} {q : Bool} {w : World} (hn : Box (K.length = n)) (hm : Box (L.length = m)) (hk : Box (K.length ≤ 65536)) (hl : Box (L.length ≤ 65536)) (hK : Ss w a K) (hL : Ss w b L) (h : Box (decide (K = L) = q)) :
    Calls Try.prog 17 #[.slice a n ca, .slice b m cb] w fun e w' => e = .returned (.bool q) ∧ Below w.heap.size w w' := by
  have := kSameS_any a b ca cb K L w hk.out hl.out (box hK) (box hL)
  rw [hn.out, hm.out, h.out] at this; exact this
theorem ss14_three (a b c : ByteArray) (w : World) (t : TypeId) : Ss (w.alloc (.cells #[.string a, .string b, .string c] t)) (some ⟨w.heap.size, 0, none⟩) [a, b, c] := by
  intro i hi
  refine ⟨w.heap.size, 0, rfl, ?_⟩
  rw [Nat.zero_add, World.cell?_alloc_mark]
  match i, hi with
  | 0, _ => rfl
  | 1, _ => rfl
  | 2, _ => rfl
theorem ss14_two (a b : ByteArray) (w : World) (t : TypeId) : Ss (w.alloc (.cells #[.string a, .string b] t)) (some ⟨w.heap.size, 0, none⟩) [a, b] := by
  intro i hi
  refine ⟨w.heap.size, 0, rfl, ?_⟩
  rw [Nat.zero_add, World.cell?_alloc_mark]
  match i, hi with
  | 0, _ => rfl
  | 1, _ => rfl
theorem qs14_one (a : ByteArray) (q : Int) (w : World) (t : TypeId) : Qs (w.alloc (.cells #[.string a, .int .i64 q] t)) (some ⟨w.heap.size, 0, none⟩) [(a, q)] := by
  intro i hi
  refine ⟨w.heap.size, 0, rfl, ?_, ?_⟩
  all_goals
    rw [World.cell?_alloc_mark]
    match i, hi with
    | 0, _ => rfl
def gzip14 : ByteArray := ⟨#[103, 122, 105, 112]⟩
def iden14 : ByteArray := ⟨#[105, 100, 101, 110, 116, 105, 116, 121]⟩
def br14 : ByteArray := ⟨#[98, 114]⟩
def aw14L : List QP := [(gzip14, 1000)]
theorem aw14_q : qualR 4 aw14L true iden14.data.toList = 1 := by decide +kernel
theorem aw14_r : rankQ (fun v => qualR 4 aw14L true v.data.toList) [br14, iden14, gzip14] = [gzip14, iden14] := by decide +kernel
theorem awake14_any (w : World) : Calls Try.prog 10 #[] w fun e w' => e = .returned (.bool true) ∧ Below w.heap.size w w' := by
  have HQ := box aw14_q
  have HR := box aw14_r
  have HD : Box (decide ([gzip14, iden14] = [gzip14, iden14]) = true) := box (by simp)
  have zL : Box (∀ i (hi : i < aw14L.length), aw14L[i].1.size ≤ 20000) := box (fun i hi => by
    match i, hi with
    | 0, _ => exact (show gzip14.size ≤ 20000 by decide))
  have zV : Box (∀ i (hi : i < [br14, iden14, gzip14].length), [br14, iden14, gzip14][i].size ≤ 20000) := box (fun i hi => by
    match i, hi with
    | 0, _ => exact (show br14.size ≤ 20000 by decide)
    | 1, _ => exact (show iden14.size ≤ 20000 by decide)
    | 2, _ => exact (show gzip14.size ≤ 20000 by decide))
  have h4 : InI64 4 := ⟨by omega, by omega⟩
  have hiz : iden14.size ≤ 20000 := by decide
  go_enter Try.func10, Try.ntmps10
  go_wp2_with fail
  refine (mQuality_is (L := aw14L) (v := iden14) h4 (box rfl) (box (by decide)) zL hiz (qs14_one _ _ _ _) HQ).mono ?_; rintro e w1 ⟨rfl, hb1⟩
  have Q1 := box ((qs14_one gzip14 1000 w 33).below hb1)
  have B1 := box ((below_new w _).trans (hb1.mono (below_new w _).size))
  clear hb1
  go_wp2_with fail
  refine (mRank_is (L := aw14L) (V := [br14, iden14, gzip14]) h4 (box rfl) (box (by decide)) zL (box rfl) (box (by decide)) zV (Q1.out.below (below_new _ _)) (ss14_three _ _ _ _ _) HR).mono ?_; rintro e w2 ⟨p, c, rfl, hS2, hb2⟩
  have B2 := box ((B1.out.alloc B1.out.size _).trans (hb2.mono (B1.out.alloc B1.out.size _).size))
  have S2 := box hS2
  clear hb2 hS2
  go_wp2_with fail
  refine (same14_is (K := [gzip14, iden14]) (L := [gzip14, iden14]) (box rfl) (box rfl) (box (by decide)) (box (by decide)) (S2.out.below (below_new _ _)) (ss14_two _ _ _ _) HD).mono ?_; rintro e w3 ⟨rfl, hb3⟩
  have B3 := box ((B2.out.alloc B2.out.size _).trans (hb3.mono (B2.out.alloc B2.out.size _).size))
  clear hb3
  go_wp2
  go_ret
  exact ⟨rfl, B3.out⟩
theorem in14 {n : Int} (h : (Lit.int .i64 n).wf = true) : InI64 n := by
  unfold InI64
  simp [Lit.wf, IntKind.min, IntKind.max, IntKind.bits, IntKind.signed] at h
  omega
theorem qualities14_walk (k : Int) (a : Option Addr) (cap : Nat) (L : List QP) (present : Bool) (v : ByteArray) (w : World) (hk0 : (Lit.int .i64 k).wf = true) (hl : L.length ≤ maxLen) (hF : Qs w a L ∧ ∀ i (h : i < L.length), InI64 L[i].2) (hc : L.length ≤ cap) (S : v.size ≤ maxLen) :
    Calls Try.prog 3 #[.int .i64 k, .slice a L.length cap, .bool present, .string v] w fun e w' => e = .returned (.bool true) ∧ Below w.heap.size w w' := by
  have hki := in14 hk0
  have F0 := box hF.1
  have HL := box hl
  clear hk0 hF hl hc
  unfold maxLen at S
  rcases hk : keepQ L with _ | _
  · have HK := box hk
    clear hk
    go_enter Try.func3, Try.ntmps3
    go_wp2_with fail
    refine (keepPrefs_any a cap L _ HL.out F0).mono ?_; rintro e w1 ⟨rfl, rfl⟩; rw [HK.out]
    go_wp2
    go_ret
    exact ⟨rfl, Below.refl _ _⟩
  · have HK := box hk
    obtain ⟨b1, b2⟩ := keepQ_bounds hk
    have hl6 : Box (L.length ≤ 65536) := box (by omega)
    have zL : Box (∀ i (hi : i < L.length), L[i].1.size ≤ 20000) := box (fun i hi => by have := b2 i hi; omega)
    clear hk b1 b2
    by_cases h1 : 300 < v.size
    · have i1 : (300 : Int) < (v.size : Int) := by omega
      go_enter Try.func3, Try.ntmps3
      go_wp2_with fail
      refine (keepPrefs_any a cap L _ HL.out F0).mono ?_; rintro e w1 ⟨rfl, rfl⟩; rw [HK.out]
      go_wp2
      go_ret
      exact ⟨rfl, Below.refl _ _⟩
    · have i1 : ¬ (300 : Int) < (v.size : Int) := by omega
      have hv : v.size ≤ 20000 := by omega
      obtain ⟨i, hi⟩ : ∃ i, qualR k L present v.data.toList = i := ⟨_, rfl⟩
      have HI := box hi
      have e1 : (i == i) = true := by simp
      clear hi
      go_enter Try.func3, Try.ntmps3
      go_wp2_with fail
      refine (keepPrefs_any a cap L _ HL.out F0).mono ?_; rintro e w1 ⟨rfl, rfl⟩; rw [HK.out]
      go_wp2_with fail
      refine (mQuality_is hki (box rfl) hl6 zL hv F0.out HI).mono ?_; rintro e w1 ⟨rfl, hb1⟩
      have B1 := box hb1
      have F1 := box (F0.out.below hb1)
      clear hb1
      go_wp2_with fail
      refine (rQuality_is hki (box rfl) hl6 zL hv F1.out HI).mono ?_; rintro e w2 ⟨rfl, hb2⟩
      have B2 := box (B1.out.trans (hb2.mono B1.out.size))
      clear hb2
      go_wp2_with fail
      refine (awake14_any _).mono ?_; rintro e w3 ⟨rfl, hb3⟩
      have B3 := box (B2.out.trans (hb3.mono B2.out.size))
      clear hb3
      go_wp2
      go_ret
      exact ⟨rfl, B3.out⟩
end
section
open Go.RowKit
def posN (q : ByteArray → Int) (V : List ByteArray) (j : Nat) : Nat := (V.take j).countP fun y => decide (0 < q y)
def atN (q : ByteArray → Int) (V : List ByteArray) (i m : Nat) : Nat := (List.range m).countP fun k => aheadR q V i k
theorem pos_on {q : ByteArray → Int} {V : List ByteArray} {j : Nat} (hj : j < V.length) (h : 0 < q V[j]) : posN q V (j + 1) = posN q V j + 1 := by
  unfold posN
  rw [List.take_succ_eq_append_getElem hj, List.countP_append]
  simp [h]
theorem pos_off {q : ByteArray → Int} {V : List ByteArray} {j : Nat} (hj : j < V.length) (h : ¬ 0 < q V[j]) : posN q V (j + 1) = posN q V j := by
  unfold posN
  rw [List.take_succ_eq_append_getElem hj, List.countP_append]
  simp [h]
theorem pos_le (q : ByteArray → Int) (V : List ByteArray) (j : Nat) : posN q V j ≤ V.length := by
  unfold posN
  refine Nat.le_trans List.countP_le_length ?_
  rw [List.length_take]; omega
theorem at_le14 (q : ByteArray → Int) (V : List ByteArray) (i m : Nat) : atN q V i m ≤ m := by
  unfold atN
  refine Nat.le_trans List.countP_le_length ?_
  simp
theorem at_next {q : ByteArray → Int} {V : List ByteArray} {i m : Nat} {b : Bool} (h : aheadR q V i m = b) : atN q V i (m + 1) = atN q V i m + if b = true then 1 else 0 := by
  unfold atN
  rw [List.range_succ, List.countP_append, List.countP_cons, List.countP_nil, h]
  omega
theorem ahead_is {q : ByteArray → Int} {V : List ByteArray} {i m : Nat} {x p : Int} (hi : i < V.length) (hm : m < V.length) (h1 : q V[i] = x) (h2 : q V[m] = p) : aheadR q V i m = (decide (x < p) || (decide (p = x) && decide (m < i))) := by
  unfold aheadR
  rw [List.getD_eq_getElem?_getD, List.getElem?_eq_getElem hi, List.getD_eq_getElem?_getD, List.getElem?_eq_getElem hm, Option.getD_some, Option.getD_some, h1, h2]
def SoRel (q : ByteArray → Int) (V : List ByteArray) (W : World) (n i : Value) (wr : World) : Prop :=
  ∃ j c : Nat, i = .int .i64 j ∧ j ≤ V.length ∧ n = .int .i64 c ∧ posN q V j = c ∧ Below W.heap.size W wr
def SiRel (q : ByteArray → Int) (V : List ByteArray) (i : Nat) (W : World) (t k : Value) (wr : World) : Prop :=
  ∃ m c : Nat, k = .int .i64 m ∧ m ≤ V.length ∧ t = .int .i64 c ∧ atN q V i m = c ∧ Below W.heap.size W wr
set_option maxHeartbeats 2000000 in
theorem sorted14_in (k : Int) (a b : Option Addr) (cap cb : Nat) (L : List QP) (present : Bool) (V R : List ByteArray) (q : ByteArray → Int) (w : World) (hki : InI64 k) (HL : Box (L.length ≤ maxLen)) (HVL : Box (V.length ≤ maxLen)) (F0 : Box (Qs w a L)) (V0 : Box (Ss w b V)) (HK : Box (keepQ L = true)) (HS : Box (keepS V = true)) (hl : Box (L.length ≤ 65536)) (hvl : V.length ≤ 20) (zL : Box (∀ i (hi : i < L.length), L[i].1.size ≤ 20000)) (zV : Box (∀ i (hi : i < V.length), V[i].size ≤ 20000))
    (HQ : Box (∀ x, qualR k L present x.data.toList = q x)) (HR : Box (rankQ (fun v => qualR k L present v.data.toList) V = R)) (HR2 : Box (rankQ q V = R)) :
    Calls Try.prog 4 #[.int .i64 k, .slice a L.length cap, .bool present, .slice b V.length cb] w fun e w' => e = .returned (.bool true) ∧ Below w.heap.size w w' := by
  have hvl6 : Box (V.length ≤ 65536) := box (by omega)
  go_enter Try.func4, Try.ntmps4
  go_wp2_with fail
  refine (keepPrefs_any a cap L _ HL.out F0).mono ?_; rintro e w1 ⟨rfl, rfl⟩; rw [HK.out]
  go_wp2_with fail
  refine (keepStrings_any b cb V _ HVL.out V0).mono ?_; rintro e w1 ⟨rfl, rfl⟩; rw [HS.out]
  go_wp2_with fail
  refine (mRank_is (L := L) (V := V) hki (box rfl) hl zL (box rfl) hvl6 zV F0.out V0.out HR).mono ?_; rintro e w1 ⟨p1, c1, rfl, hS1, hb1⟩
  have B1 := box hb1
  have F1 := box (F0.out.below hb1)
  have V1 := box (V0.out.below hb1)
  have S1 := box hS1
  clear hb1 hS1
  go_wp2
  go_loopw [10, 11, 12, 13, 14, 15] (fun n i _ _ _ _ wr => SoRel q V w1 n i wr) (fun _ i _ _ _ _ _ => V.length - (intOf i).toNat)
  case atStart => exact ⟨0, 0, rfl, Nat.zero_le _, rfl, rfl, Below.refl _ _⟩
  case round =>
    obtain ⟨j, c, rfl, hj, rfl, hpos, hbel⟩ := hrel
    have HP := box hpos
    have BL := box hbel
    have F2 := box (F1.out.below hbel)
    have V2 := box (V1.out.below hbel)
    have S2 := box (S1.out.below hbel)
    have hcl : c ≤ V.length := by rw [← hpos]; exact pos_le q V j
    clear hbel hpos
    by_cases hlt : j < V.length
    · have hji : (j : Int) < (V.length : Int) := by omega
      obtain ⟨v, hv⟩ : ∃ v, V[j] = v := ⟨_, rfl⟩
      have HV := box hv
      have hvz : v.size ≤ 20000 := by have := zV.out j hlt; rw [hv] at this; exact this
      obtain ⟨x, hx⟩ : ∃ x, q v = x := ⟨_, rfl⟩
      have HX := box ((HQ.out v).trans hx)
      have HX2 : Box (q V[j] = x) := box (by rw [hv]; exact hx)
      obtain ⟨g, off, rfl, c0⟩ := V2.out j hlt
      rw [hv] at c0
      have C0 := box c0
      clear hv hx c0
      by_cases hpo : 0 < x
      · have hpi : ¬ x ≤ 0 := by omega
        have HN : Box (posN q V (j + 1) = c + 1) := box (by rw [pos_on hlt (by rw [HX2.out]; exact hpo), HP.out])
        have c0 := C0.out
        go_wp2_with fail
        refine (mQuality_is hki (box rfl) hl zL hvz F2.out HX).mono ?_; rintro e w3 ⟨rfl, hb3⟩
        have B3 := box (BL.out.trans (hb3.mono BL.out.size))
        have F3 := box (F2.out.below hb3)
        have V3 := box (V2.out.below hb3)
        have S3 := box (S2.out.below hb3)
        clear hb3 c0
        go_wp2
        go_loopw [13, 14, 15] (fun t m _ wi => SiRel q V j w3 t m wi) (fun _ m _ _ => V.length - (intOf m).toNat)
        case atStart => exact ⟨0, 0, rfl, Nat.zero_le _, rfl, rfl, Below.refl _ _⟩
        case round =>
          obtain ⟨m, t, rfl, hm, rfl, hat, hbi⟩ := hrel
          have HA := box hat
          have BI := box hbi
          have F4 := box (F3.out.below hbi)
          have V4 := box (V3.out.below hbi)
          have S4 := box (S3.out.below hbi)
          have htm : t ≤ m := by rw [← hat]; exact at_le14 q V j m
          clear hbi hat
          by_cases hlm : m < V.length
          · have hmi : (m : Int) < (V.length : Int) := by omega
            obtain ⟨u, hu⟩ : ∃ u, V[m] = u := ⟨_, rfl⟩
            have huz : u.size ≤ 20000 := by have := zV.out m hlm; rw [hu] at this; exact this
            obtain ⟨y, hy⟩ : ∃ y, q u = y := ⟨_, rfl⟩
            have HY := box ((HQ.out u).trans hy)
            have HAH := box (ahead_is (p := y) hlt hlm HX2.out (by rw [hu]; exact hy))
            obtain ⟨g', off', e, d0⟩ := V4.out m hlm
            cases e
            rw [hu] at d0
            clear hu hy
            by_cases h1 : x < y
            · have HM : Box (atN q V j (m + 1) = t + 1) := box (by rw [at_next (b := true) (by rw [HAH.out, decide_eq_true h1]; rfl), HA.out]; rfl)
              go_wp2_with fail
              refine (mQuality_is hki (box rfl) hl zL huz F4.out HY).mono ?_; rintro e w5 ⟨rfl, hb5⟩
              have B5 := box (BI.out.trans (hb5.mono BI.out.size))
              clear hb5 d0
              go_wp2
              go_roundw
              case rel => exact ⟨m + 1, t + 1, by go_num, hlm, by go_num, HM.out, B5.out⟩
              case measure => simp [intOf]; omega
            · by_cases h2 : y = x
              · subst h2
                have e2 : (y == y) = true := by simp
                by_cases h3 : m < j
                · have h3i : (m : Int) < (j : Int) := by omega
                  have HM : Box (atN q V j (m + 1) = t + 1) := box (by rw [at_next (b := true) (by rw [HAH.out, decide_eq_true h3]; simp), HA.out]; rfl)
                  go_wp2_with fail
                  refine (mQuality_is hki (box rfl) hl zL huz F4.out HY).mono ?_; rintro e w5 ⟨rfl, hb5⟩
                  have B5 := box (BI.out.trans (hb5.mono BI.out.size))
                  clear hb5 d0
                  go_wp2
                  go_roundw
                  case rel => exact ⟨m + 1, t + 1, by go_num, hlm, by go_num, HM.out, B5.out⟩
                  case measure => simp [intOf]; omega
                · have h3i : ¬ (m : Int) < (j : Int) := by omega
                  have HM : Box (atN q V j (m + 1) = t) := box (by rw [at_next (b := false) (by rw [HAH.out, decide_eq_false h3]; simp), HA.out]; rfl)
                  go_wp2_with fail
                  refine (mQuality_is hki (box rfl) hl zL huz F4.out HY).mono ?_; rintro e w5 ⟨rfl, hb5⟩
                  have B5 := box (BI.out.trans (hb5.mono BI.out.size))
                  clear hb5 d0
                  go_wp2
                  go_roundw
                  case rel => exact ⟨m + 1, t, by go_num, hlm, rfl, HM.out, B5.out⟩
                  case measure => simp [intOf]; omega
              · have e2 : (y == x) = false := by rw [beq_eq_false_iff_ne]; exact h2
                have HM : Box (atN q V j (m + 1) = t) := box (by rw [at_next (b := false) (by rw [HAH.out, decide_eq_false h1, decide_eq_false h2]; rfl), HA.out]; rfl)
                go_wp2_with fail
                refine (mQuality_is hki (box rfl) hl zL huz F4.out HY).mono ?_; rintro e w5 ⟨rfl, hb5⟩
                have B5 := box (BI.out.trans (hb5.mono BI.out.size))
                clear hb5 d0
                go_wp2
                go_roundw
                case rel => exact ⟨m + 1, t, by go_num, hlm, rfl, HM.out, B5.out⟩
                case measure => simp [intOf]; omega
          · have hmi : ¬ (m : Int) < (V.length : Int) := by omega
            have hml : m = V.length := by omega
            subst hml
            have hR : R[t]? = some v := by
              have h1 := rank_at (q := q) hlt (by rw [HX2.out]; exact hpo)
              rw [HR2.out, HV.out] at h1
              rw [← HA.out]; exact h1
            have htR : t < R.length := by
              rcases Nat.lt_or_ge t R.length with h | h
              · exact h
              · rw [List.getElem?_eq_none h] at hR; cases hR
            have hRt : R[t] = v := by rw [List.getElem?_eq_getElem htR] at hR; exact Option.some.inj hR
            have htRi : (t : Int) < (R.length : Int) := by omega
            have htRn : ¬ (R.length : Int) ≤ (t : Int) := by omega
            obtain ⟨g2, off2, rfl, c2⟩ := S4.out t htR
            rw [hRt] at c2
            obtain ⟨g', off', e, d0⟩ := V4.out j hlt
            cases e
            rw [HV.out] at d0
            have e3 : (v.toList == v.toList) = true := by simp
            have B4 := box (B3.out.trans (BI.out.mono B3.out.size))
            clear hR hRt
            have hd : decide ((R.length : Int) ≤ (t : Int)) = false := decide_eq_false htRn
            clear htRn
            go_wp2
            go_quiet (fail)
            go_wp2
            go_roundw
            case rel => exact ⟨j + 1, c + 1, by go_num, hlt, by go_num, HN.out, B4.out.trans ((below_drewN _ _).mono B4.out.size)⟩
            case measure => simp [intOf]; omega
      · have hpi : x ≤ 0 := by omega
        have HN : Box (posN q V (j + 1) = c) := box (by rw [pos_off hlt (by rw [HX2.out]; exact hpo), HP.out])
        have c0 := C0.out
        go_wp2_with fail
        refine (mQuality_is hki (box rfl) hl zL hvz F2.out HX).mono ?_; rintro e w3 ⟨rfl, hb3⟩
        have B3 := box (BL.out.trans (hb3.mono BL.out.size))
        clear hb3 c0
        go_wp2
        go_roundw
        case rel => exact ⟨j + 1, c, by go_num, hlt, rfl, HN.out, B3.out⟩
        case measure => simp [intOf]; omega
    · have hji : ¬ (j : Int) < (V.length : Int) := by omega
      have hjl : j = V.length := by omega
      subst hjl
      have hcr : c = R.length := by
        have h1 := HP.out
        unfold posN at h1
        rw [List.take_length, ← rank_len, HR2.out] at h1
        exact h1.symm
      subst hcr
      have e1 : ((R.length : Int) == (R.length : Int)) = true := by simp
      go_wp2_with fail
      refine (awake14_any _).mono ?_; rintro e w9 ⟨rfl, hb9⟩
      have B9 := box (B1.out.trans ((BL.out.trans (hb9.mono BL.out.size)).mono B1.out.size))
      clear hb9
      go_wp2
      go_ret
      exact ⟨rfl, B9.out⟩
theorem sorted14_walk (k : Int) (a : Option Addr) (cap : Nat) (L : List QP) (present : Bool) (b : Option Addr) (cb : Nat) (V : List ByteArray) (w : World) (hk0 : (Lit.int .i64 k).wf = true) (hl : L.length ≤ maxLen) (hF : Qs w a L ∧ ∀ i (h : i < L.length), InI64 L[i].2) (hc : L.length ≤ cap) (hvl : V.length ≤ maxLen) (hV : Ss w b V) (hcv : V.length ≤ cb) :
    Calls Try.prog 4 #[.int .i64 k, .slice a L.length cap, .bool present, .slice b V.length cb] w fun e w' => e = .returned (.bool true) ∧ Below w.heap.size w w' := by
  have hki := in14 hk0
  have F0 := box hF.1
  have V0 := box hV
  have HL := box hl
  have HVL := box hvl
  clear hk0 hF hl hc hvl hV hcv
  rcases hk : keepQ L with _ | _
  · have HK := box hk
    clear hk
    go_enter Try.func4, Try.ntmps4
    go_wp2_with fail
    refine (keepPrefs_any a cap L _ HL.out F0).mono ?_; rintro e w1 ⟨rfl, rfl⟩; rw [HK.out]
    go_wp2
    go_ret
    exact ⟨rfl, Below.refl _ _⟩
  · rcases hs : keepS V with _ | _
    · have HK := box hk
      have HS := box hs
      clear hk hs
      go_enter Try.func4, Try.ntmps4
      go_wp2_with fail
      refine (keepPrefs_any a cap L _ HL.out F0).mono ?_; rintro e w1 ⟨rfl, rfl⟩; rw [HK.out]
      go_wp2_with fail
      refine (keepStrings_any b cb V _ HVL.out V0).mono ?_; rintro e w1 ⟨rfl, rfl⟩; rw [HS.out]
      go_wp2
      go_ret
      exact ⟨rfl, Below.refl _ _⟩
    · obtain ⟨b1, b2⟩ := keepQ_bounds hk
      obtain ⟨d1, d2⟩ := keepS_small hs
      exact sorted14_in k a b cap cb L present V _ (fun v => qualR k L present v.data.toList) w hki HL HVL F0 V0 (box hk) (box hs) (box (by omega)) d1 (box (fun i hi => by have := b2 i hi; omega)) (box (fun i hi => by have := d2 _ (List.getElem_mem hi); omega)) (box (fun _ => rfl)) (box rfl) (box rfl)
end
section
open Go.RowKit
theorem Qs.news {w : World} {ad : Addr} {M : List QP} (h : Qs w (some ad) M) : ∀ j u, (cellsQ M)[j]? = some u → w.cell? (ad.add j) = some u := by
  intro j u hj
  have hlen := (List.getElem?_eq_some_iff.mp hj).1
  rw [cellsQ_len] at hlen
  have hi : j / 2 < M.length := by omega
  obtain ⟨g, off, e, c0, c1⟩ := h (j / 2) hi
  obtain ⟨q0, q1⟩ := cellsQ_at M (j / 2) hi
  cases e
  rw [add_at]
  rcases Nat.mod_two_eq_zero_or_one j with r | r
  · have ej : j = j / 2 * 2 := by omega
    rw [← ej] at q0 c0
    rw [q0] at hj; cases hj; exact c0
  · have ej : j = j / 2 * 2 + 1 := by omega
    rw [← ej] at q1
    have ec : off + j / 2 * 2 + 1 = off + j := by omega
    rw [ec] at c1
    rw [q1] at hj; cases hj; exact c1
theorem cellsQ_one (M : List QP) : ∀ u ∈ cellsQ M, u.oneCell' = true := by
  intro u hu
  obtain ⟨p, _, hp⟩ := List.mem_flatMap.mp hu
  simp at hp; rcases hp with rfl | rfl <;> rfl
/-- append of a list of preferences -/
theorem wpList_append_prfs (w : World) {ops : Array Oper} {rest : List Oper} {o : Oper} {a : Act} {Q : Exit → Act → World → Prop} (hgd : o.guard = none) (s x : Operand)
    (ho : o.op = .call { callee := .builtin .append, args := #[s, x], argTypes := #[22, 22] })
    (B : Nat) (v : Value) (L M : List QP) (hs : a.eval s = v) (hown : OwnQ w B v L)
    (ad : Option Addr) (c : Nat) (hx : a.eval x = .slice ad M.length c) (hn : ad = none → c = 0) (hM : Qs w ad M) (hl : L.length ≤ 65536) (hm : M.length ≤ 65536) (hB : B ≤ w.heap.size)
    (h : ∀ v' w', OwnQ w' B v' (L ++ M) → Below B w w' → wpList Try.prog ops Q rest (a.put o.dst v') w') : wpList Try.prog ops Q (o :: rest) a w := by
  obtain ⟨i0, hi0, hz0, hz1, hz2⟩ := info_parts info_prf
  rcases ad with _ | ad
  · have hc := hn rfl
    subst hc
    have he : M = [] := by
      rcases M with _ | ⟨p, M⟩
      · rfl
      · obtain ⟨g, off, e, _⟩ := hM 0 (by simp)
        cases e
    subst he
    rw [List.append_nil] at h
    exact wpList_append_own_none (P := Try.prog) hgd s x 22 ho B 33 i0 2 Try.underlying22 hi0 v L.length (cellsQ L) hs hown hx (h v w hown (Below.refl _ _))
  · refine wpList_append_own (P := Try.prog) w hgd s x 22 ho B 33 i0 _ 2 24 Try.underlying22 hi0 hz0 hz1 hz2 rfl (by decide) v L.length (cellsQ L) hs hown ad M.length c (cellsQ M) hx (cellsQ_len M) hM.news (cellsQ_one M) (by unfold maxLen; omega) (by omega) hB ?_
    intro v' w' q1 q2 _
    refine h v' w' (by simpa [OwnQ, cellsQ_app] using q1) ((Below.refl _ _).grown q2 hB (fun k hk => own_block hown k hk))
/-- what a slice of preferences that a call owns looks like: nil has no capacity -/
theorem OwnQ.qs2 {w : World} {B : Nat} {v : Value} {L : List QP} (h : OwnQ w B v L) : ∃ a cap, v = .slice a L.length cap ∧ Qs w a L ∧ (a = none → cap = 0) ∧ L.length ≤ cap := by
  rcases h.2 with ⟨rfl, hn⟩ | ⟨g, cap, cur, rfl, _⟩
  · exact ⟨none, 0, by rw [hn], fun i hi => by omega, fun _ => rfl, by omega⟩
  · obtain ⟨a, cap', hv, hf, hc⟩ := OwnQ.qs h
    injection hv with e1 e2 e3
    exact ⟨_, cap, rfl, by rw [e1]; exact hf, fun ha => (by cases ha), by omega⟩
theorem OwnQ.one {w : World} {B : Nat} (hB : B ≤ w.heap.size) (n : ByteArray) (q : Int) : OwnQ (w.alloc (.cells #[.string n, .int .i64 q] 33)) B (.slice (some ⟨w.heap.size, 0, none⟩) 1 1) [(n, q)] :=
  World.ownsRow_lit w #[.string n, .int .i64 q] 1 hB (by decide) rfl
end
end Go.Proofs.Ytgmfmlcpogbolaa.Asc
