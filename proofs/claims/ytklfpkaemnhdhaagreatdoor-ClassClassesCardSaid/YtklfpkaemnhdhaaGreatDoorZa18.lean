/- Merged texts: ClsLaws ClsRow AccLaws2. -/
import Derived.Test.YtklfpkaemnhdhaaGreatDoorZa03
import Derived.Test.YtklfpkaemnhdhaaGreatDoorZa04
import Derived.Test.YtklfpkaemnhdhaaGreatDoorZa06
import Derived.Test.YtklfpkaemnhdhaaGreatDoorZa08
import Derived.Test.YtklfpkaemnhdhaaGreatDoorZa10
import Derived.Test.YtklfpkaemnhdhaaGreatDoorZa11
import Derived.Test.YtklfpkaemnhdhaaGreatDoorZa13
import Derived.Test.YtklfpkaemnhdhaaGreatDoorZa16
import Derived.Test.YtklfpkaemnhdhaaGreatDoorZa17
set_option linter.unusedVariables false
set_option linter.unusedSimpArgs false
set_option maxRecDepth 100000
namespace Go.Proofs.YtklfpkaemnhdhaaGreatDoor.Asc
section
open Go.RowKit
def aw18T : ByteArray := ⟨#[97, 99, 99, 101, 112, 116, 45, 108, 97, 110, 103, 117, 97, 103, 101, 61, 40, 101, 110, 32, 102, 114, 41, 44, 32, 97, 99, 99, 101, 112, 116, 45, 101, 110, 99, 111, 100, 105, 110, 103, 61, 40, 103, 122, 105, 112, 32, 105, 100, 101, 110, 116, 105, 116, 121, 41]⟩
theorem aw18_is : classS aw15X [] false = aw18T := by decide +kernel
theorem fit_nil : FitL [] := fit_small (m := 0) (by simp) (fun i hi => absurd hi (by simp))
theorem aw18_fit : FitC aw15X := fun i hi => by
  obtain ⟨h1, h2, h3⟩ := aw15_fit i hi
  exact ⟨h1, by omega, fun j hj => h3 _ (List.getElem_mem hj)⟩
theorem fitC_keep {X : List AX} (h : keepA X = true) : FitC X := fun i hi => by
  obtain ⟨h3, h4, h5⟩ := (keepA_parts h).2 i hi
  exact ⟨by omega, by omega, fun j hj => by have := h5 _ (List.getElem_mem hj); omega⟩
theorem axes18_any (w : World) : Calls Tryz.prog 41 #[] w fun e w' => ∃ p c, e = .returned (.slice p aw15X.length c) ∧ Axs w' p aw15X ∧ Below w.heap.size w w' := by
  have S1 := ss_two15 ⟨#[101, 110]⟩ ⟨#[102, 114]⟩ w 9
  have b1 := below_new w (.cells #[.string ⟨#[101, 110]⟩, .string ⟨#[102, 114]⟩] 9)
  have S2 := ss_two15 ⟨#[103, 122, 105, 112]⟩ ⟨#[105, 100, 101, 110, 116, 105, 116, 121]⟩ (w.alloc (.cells #[.string ⟨#[101, 110]⟩, .string ⟨#[102, 114]⟩] 9)) 9
  have b2 := below_new (w.alloc (.cells #[.string ⟨#[101, 110]⟩, .string ⟨#[102, 114]⟩] 9)) (.cells #[.string ⟨#[103, 122, 105, 112]⟩, .string ⟨#[105, 100, 101, 110, 116, 105, 116, 121]⟩] 9)
  have HS := box (And.intro S1 (And.intro b1 (And.intro S2 b2)))
  clear S1 b1 S2 b2
  go_enter Tryz.func41, Tryz.ntmps41
  go_wp2
  go_ret
  obtain ⟨S1, b1, S2, b2⟩ := HS.out
  obtain ⟨W2, hW2⟩ : ∃ W2, (w.alloc (.cells #[.string ⟨#[101, 110]⟩, .string ⟨#[102, 114]⟩] 9)).alloc (.cells #[.string ⟨#[103, 122, 105, 112]⟩, .string ⟨#[105, 100, 101, 110, 116, 105, 116, 121]⟩] 9) = W2 := ⟨_, rfl⟩
  have hsz : (w.alloc (.cells #[.string ⟨#[101, 110]⟩, .string ⟨#[102, 114]⟩] 9)).heap.size = w.heap.size + 1 := by simp
  have hsz2 : W2.heap.size = w.heap.size + 1 + 1 := by rw [← hW2]; simp
  have S1' := S1.below b2
  rw [hsz] at S2
  rw [hW2] at S1' S2
  have b3 := below_new W2 (.cells #[.string aw15A, .slice (some ⟨w.heap.size, 0, none⟩) 2 2, .string aw15B, .slice (some ⟨w.heap.size + 1, 0, none⟩) 2 2] 39)
  refine ⟨some ⟨W2.heap.size, 0, none⟩, 2, by rw [hsz2]; rfl, ?_, (by
    have h := (b1.trans (b2.mono b1.size))
    rw [hW2] at h
    have h2 := h.trans (b3.mono h.size)
    rw [← hW2] at h2
    exact h2)⟩
  show Axs ((((w.alloc (.cells #[.string ⟨#[101, 110]⟩, .string ⟨#[102, 114]⟩] 9)).alloc (.cells #[.string ⟨#[103, 122, 105, 112]⟩, .string ⟨#[105, 100, 101, 110, 116, 105, 116, 121]⟩] 9))).alloc (.cells #[.string aw15A, .slice (some ⟨w.heap.size, 0, none⟩) 2 2, .string aw15B, .slice (some ⟨w.heap.size + 1, 0, none⟩) 2 2] 39)) _ _
  rw [hW2]
  intro i hi
  match i, hi with
  | 0, _ => exact ⟨W2.heap.size, 0, _, rfl, by rw [World.cell?_alloc_mark]; rfl, by rw [World.cell?_alloc_mark]; rfl, some ⟨w.heap.size, 0, none⟩, 2, rfl, S1'.below b3, Nat.le_refl 2⟩
  | 1, _ => exact ⟨W2.heap.size, 0, _, rfl, by rw [World.cell?_alloc_mark]; rfl, by rw [World.cell?_alloc_mark]; rfl, some ⟨w.heap.size + 1, 0, none⟩, 2, rfl, S2.below b3, Nat.le_refl 2⟩
set_option maxHeartbeats 2000000 in
theorem awake18_any (w : World) (hW : Wts w) : Calls Tryz.prog 16 #[] w fun e w' => e = .returned (.bool true) ∧ Below w.heap.size w w' := by
  have HT := box hW
  have HX := box aw18_is
  have ZX := box aw18_fit
  have FL := box fit_nil
  have hl : aw15X.length ≤ 65536 := by decide
  have hn1 : Box (aw15X.length = 2) := box rfl
  have hn2 : Box (([] : List F).length = 0) := box rfl
  have hlit : aw18T.toList = [97, 99, 99, 101, 112, 116, 45, 108, 97, 110, 103, 117, 97, 103, 101, 61, 40, 101, 110, 32, 102, 114, 41, 44, 32, 97, 99, 99, 101, 112, 116, 45, 101, 110, 99, 111, 100, 105, 110, 103, 61, 40, 103, 122, 105, 112, 32, 105, 100, 101, 110, 116, 105, 116, 121, 41] := by rw [toList_data]; rfl
  clear hW
  go_enter Tryz.func16, Tryz.ntmps16
  go_wp2_with fail
  refine (axes18_any _).mono ?_; rintro e w1 ⟨p1, c1, rfl, hA1, hb1⟩
  have B1 := box hb1
  have A1 := box hA1
  have T1 := HT.out.below hb1
  clear hb1 hA1
  rw [hn1.out]
  go_wp2_with fail
  refine (mClass_is (X := aw15X) (L := []) hl ZX FL A1.out (Fs.nil17 _ _) T1 HX hn1 hn2).mono ?_; rintro e w2 ⟨rfl, hb2⟩
  have B2 := box (B1.out.trans (hb2.mono B1.out.size))
  clear hb2 T1
  go_wp2
  go_ret
  exact ⟨rfl, B2.out⟩
set_option maxHeartbeats 4000000 in
theorem classes18_in (p : Option Addr) (cp nx : Nat) (X : List AX) (a : Option Addr) (ca nl : Nat) (L : List F) (b : Option Addr) (cb nm : Nat) (M : List F) (st : Bool) (w : World) (hx0 : Box (X.length ≤ maxLen)) (hX : Box (Axs w p X ∧ ∀ i (hi : i < X.length), X[i].2.length ≤ maxLen)) (hl0 : Box (L.length ≤ maxLen)) (hF : Box (Fs w a L)) (hm0 : Box (M.length ≤ maxLen)) (hG : Box (Fs w b M)) (hW : Wts w) (HNX : Box (X.length = nx)) (HNL : Box (L.length = nl)) (HNM : Box (M.length = nm)) :
    Calls Tryz.prog 3 #[.slice p nx cp, .slice a nl ca, .slice b nm cb, .bool st] w fun e w' => e = .returned (.bool true) ∧ Below w.heap.size w w' := by
  have HT := box hW
  obtain ⟨q1, hq1⟩ : ∃ q, keepA X = q := ⟨_, rfl⟩
  obtain ⟨q2, hq2⟩ : ∃ q, keepF L = q := ⟨_, rfl⟩
  obtain ⟨q3, hq3⟩ : ∃ q, keepF M = q := ⟨_, rfl⟩
  have Q1 := box hq1
  have Q2 := box hq2
  have Q3 := box hq3
  cases q1 with
  | false =>
    clear hq1 hq2 hq3 hW
    go_enter Tryz.func3, Tryz.ntmps3
    go_wp2_with fail
    refine (keepA17_is hx0.out hX.out Q1 HNX).mono ?_; rintro e w1 ⟨rfl, rfl⟩
    go_wp2
    go_ret
    exact ⟨rfl, Below.refl _ _⟩
  | true =>
    cases q2 with
    | false =>
      clear hq1 hq2 hq3 hW
      go_enter Tryz.func3, Tryz.ntmps3
      go_wp2_with fail
      refine (keepA17_is hx0.out hX.out Q1 HNX).mono ?_; rintro e w1 ⟨rfl, rfl⟩
      go_wp2_with fail
      refine (keepF17_is hl0.out hF.out Q2 HNL).mono ?_; rintro e w1 ⟨rfl, rfl⟩
      go_wp2
      go_ret
      exact ⟨rfl, Below.refl _ _⟩
    | true =>
      cases q3 with
      | false =>
        clear hq1 hq2 hq3 hW
        go_enter Tryz.func3, Tryz.ntmps3
        go_wp2_with fail
        refine (keepA17_is hx0.out hX.out Q1 HNX).mono ?_; rintro e w1 ⟨rfl, rfl⟩
        go_wp2_with fail
        refine (keepF17_is hl0.out hF.out Q2 HNL).mono ?_; rintro e w1 ⟨rfl, rfl⟩
        go_wp2_with fail
        refine (keepF17_is hm0.out hG.out Q3 HNM).mono ?_; rintro e w1 ⟨rfl, rfl⟩
        go_wp2
        go_ret
        exact ⟨rfl, Below.refl _ _⟩
      | true =>
        have ZX := box (fitC_keep hq1)
        have FL := box (fit_keepF hq2)
        have FM := box (fit_keepF hq3)
        have x6 : X.length ≤ 65536 := by have := (keep_fit hq1).1; omega
        obtain ⟨C, hC⟩ : ∃ C, classS X L st = C := ⟨_, rfl⟩
        have HC := box hC
        obtain ⟨q, hq⟩ : ∃ q, sameC X L M st = q := ⟨_, rfl⟩
        have HQ := box hq
        have hbb : (q == q) = true := by simp
        clear hq1 hq2 hq3 hW hC hq
        go_enter Tryz.func3, Tryz.ntmps3
        go_wp2_with fail
        refine (keepA17_is hx0.out hX.out Q1 HNX).mono ?_; rintro e w1 ⟨rfl, rfl⟩
        go_wp2_with fail
        refine (keepF17_is hl0.out hF.out Q2 HNL).mono ?_; rintro e w1 ⟨rfl, rfl⟩
        go_wp2_with fail
        refine (keepF17_is hm0.out hG.out Q3 HNM).mono ?_; rintro e w1 ⟨rfl, rfl⟩
        go_wp2_with fail
        refine (mClass_is x6 ZX FL hX.out.1 hF.out HT.out HC HNX HNL).mono ?_; rintro e w1 ⟨rfl, hb1⟩
        have B1 := box hb1
        clear hb1
        go_wp2_with fail
        refine (rClass_is x6 ZX FL (hX.out.1.below B1.out) (hF.out.below B1.out) HC HNX HNL).mono ?_; rintro e w2 ⟨rfl, hb2⟩
        have B2 := box (B1.out.trans (hb2.mono B1.out.size))
        clear hb2
        go_wp2_with fail
        refine (mSame18_is x6 ZX FL FM (hX.out.1.below B2.out) (hF.out.below B2.out) (hG.out.below B2.out) (HT.out.below B2.out) HQ HNX HNL HNM).mono ?_; rintro e w3 ⟨rfl, hb3⟩
        have B3 := box (B2.out.trans (hb3.mono B2.out.size))
        clear hb3
        go_wp2_with fail
        refine (rSame18_is x6 ZX FL FM (hX.out.1.below B3.out) (hF.out.below B3.out) (hG.out.below B3.out) HQ HNX HNL HNM).mono ?_; rintro e w4 ⟨rfl, hb4⟩
        have B4 := box (B3.out.trans (hb4.mono B3.out.size))
        clear hb4
        go_wp2_with fail
        refine (awake18_any _ (HT.out.below B4.out)).mono ?_; rintro e w5 ⟨rfl, hb5⟩
        have B5 := box (B4.out.trans (hb5.mono B4.out.size))
        clear hb5
        go_wp2
        go_ret
        exact ⟨rfl, B5.out⟩
theorem classes18_walk (p : Option Addr) (cp : Nat) (X : List AX) (a : Option Addr) (ca : Nat) (L : List F) (b : Option Addr) (cb : Nat) (M : List F) (st : Bool) (w : World) (hx0 : X.length ≤ maxLen) (hX : Axs w p X ∧ ∀ i (hi : i < X.length), X[i].2.length ≤ maxLen) (hcx : X.length ≤ cp) (hl0 : L.length ≤ maxLen) (hF : Fs w a L) (hcl : L.length ≤ ca) (hm0 : M.length ≤ maxLen) (hG : Fs w b M) (hcm : M.length ≤ cb) (hW : Wts w) :
    Calls Tryz.prog 3 #[.slice p X.length cp, .slice a L.length ca, .slice b M.length cb, .bool st] w fun e w' => e = .returned (.bool true) ∧ Below w.heap.size w w' :=
  classes18_in p cp _ X a ca _ L b cb _ M st w (box hx0) (box hX) (box hl0) (box hF) (box hm0) (box hG) hW (box rfl) (box rfl) (box rfl)
set_option maxHeartbeats 4000000 in
theorem decides18_in (p : Option Addr) (cp nx : Nat) (X : List AX) (a : Option Addr) (ca nl : Nat) (L : List F) (b : Option Addr) (cb nm : Nat) (M : List F) (st : Bool) (w : World) (hx0 : Box (X.length ≤ maxLen)) (hX : Box (Axs w p X ∧ ∀ i (hi : i < X.length), X[i].2.length ≤ maxLen)) (hl0 : Box (L.length ≤ maxLen)) (hF : Box (Fs w a L)) (hm0 : Box (M.length ≤ maxLen)) (hG : Box (Fs w b M)) (hW : Wts w) (HNX : Box (X.length = nx)) (HNL : Box (L.length = nl)) (HNM : Box (M.length = nm)) :
    Calls Tryz.prog 5 #[.slice p nx cp, .slice a nl ca, .slice b nm cb, .bool st] w fun e w' => e = .returned (.bool true) ∧ Below w.heap.size w w' := by
  have HT := box hW
  obtain ⟨q1, hq1⟩ : ∃ q, keepA X = q := ⟨_, rfl⟩
  obtain ⟨q2, hq2⟩ : ∃ q, keepF L = q := ⟨_, rfl⟩
  obtain ⟨q3, hq3⟩ : ∃ q, keepF M = q := ⟨_, rfl⟩
  obtain ⟨q, hq⟩ : ∃ q, sameC X L M st = q := ⟨_, rfl⟩
  have Q1 := box hq1
  have Q2 := box hq2
  have Q3 := box hq3
  have HQ := box hq
  cases q1 with
  | false =>
    clear hq1 hq2 hq3 hq hW
    go_enter Tryz.func5, Tryz.ntmps5
    go_wp2_with fail
    refine (keepA17_is hx0.out hX.out Q1 HNX).mono ?_; rintro e w1 ⟨rfl, rfl⟩
    go_wp2_with fail
    refine (awake18_any _ HT.out).mono ?_; rintro e w5 ⟨rfl, hb5⟩
    have B5 := box hb5
    clear hb5
    go_wp2
    go_ret
    exact ⟨rfl, B5.out⟩
  | true =>
    cases q2 with
    | false =>
      clear hq1 hq2 hq3 hq hW
      go_enter Tryz.func5, Tryz.ntmps5
      go_wp2_with fail
      refine (keepA17_is hx0.out hX.out Q1 HNX).mono ?_; rintro e w1 ⟨rfl, rfl⟩
      go_wp2_with fail
      refine (keepF17_is hl0.out hF.out Q2 HNL).mono ?_; rintro e w1 ⟨rfl, rfl⟩
      go_wp2_with fail
      refine (awake18_any _ HT.out).mono ?_; rintro e w5 ⟨rfl, hb5⟩
      have B5 := box hb5
      clear hb5
      go_wp2
      go_ret
      exact ⟨rfl, B5.out⟩
    | true =>
      cases q3 with
      | false =>
        clear hq1 hq2 hq3 hq hW
        go_enter Tryz.func5, Tryz.ntmps5
        go_wp2_with fail
        refine (keepA17_is hx0.out hX.out Q1 HNX).mono ?_; rintro e w1 ⟨rfl, rfl⟩
        go_wp2_with fail
        refine (keepF17_is hl0.out hF.out Q2 HNL).mono ?_; rintro e w1 ⟨rfl, rfl⟩
        go_wp2_with fail
        refine (keepF17_is hm0.out hG.out Q3 HNM).mono ?_; rintro e w1 ⟨rfl, rfl⟩
        go_wp2_with fail
        refine (awake18_any _ HT.out).mono ?_; rintro e w5 ⟨rfl, hb5⟩
        have B5 := box hb5
        clear hb5
        go_wp2
        go_ret
        exact ⟨rfl, B5.out⟩
      | true =>
        have ZX := box (fitC_keep hq1)
        have FX := box (fit_keepA hq1)
        have FL := box (fit_keepF hq2)
        have FM := box (fit_keepF hq3)
        have x6 : X.length ≤ 65536 := by have := (keep_fit hq1).1; omega
        have l6 : L.length ≤ 65536 := FL.out.1.1
        have m6 : M.length ≤ 65536 := FM.out.1.1
        cases q with
        | false =>
          clear hq1 hq2 hq3 hq hW
          go_enter Tryz.func5, Tryz.ntmps5
          go_wp2_with fail
          refine (keepA17_is hx0.out hX.out Q1 HNX).mono ?_; rintro e w1 ⟨rfl, rfl⟩
          go_wp2_with fail
          refine (keepF17_is hl0.out hF.out Q2 HNL).mono ?_; rintro e w1 ⟨rfl, rfl⟩
          go_wp2_with fail
          refine (keepF17_is hm0.out hG.out Q3 HNM).mono ?_; rintro e w1 ⟨rfl, rfl⟩
          go_wp2_with fail
          refine (mSame18_is x6 ZX FL FM hX.out.1 hF.out hG.out HT.out HQ HNX HNL HNM).mono ?_; rintro e w3 ⟨rfl, hb3⟩
          have B3 := box hb3
          clear hb3
          go_wp2_with fail
          refine (awake18_any _ (HT.out.below B3.out)).mono ?_; rintro e w5 ⟨rfl, hb5⟩
          have B5 := box (B3.out.trans (hb5.mono B3.out.size))
          clear hb5
          go_wp2
          go_ret
          exact ⟨rfl, B5.out⟩
        | true =>
          obtain ⟨hv, hke⟩ := same_keys hq
          have HV := box hv
          obtain ⟨K, hK⟩ : ∃ K, keysS X L st = K := ⟨_, rfl⟩
          have HK := box hK
          have HK2 : Box (keysS X M st = K) := box (by rw [← hke]; exact hK)
          obtain ⟨k1, k2, k3⟩ := keys_small17 (L := L) (st := st) FX.out
          rw [hK] at k1 k2 k3
          have k6 : K.length ≤ 65536 := by omega
          have ZK := box k1
          clear hq1 hq2 hq3 hq hW hv hke hK k1 k2 k3
          go_enter Tryz.func5, Tryz.ntmps5
          go_wp2_with fail
          refine (keepA17_is hx0.out hX.out Q1 HNX).mono ?_; rintro e w1 ⟨rfl, rfl⟩
          go_wp2_with fail
          refine (keepF17_is hl0.out hF.out Q2 HNL).mono ?_; rintro e w1 ⟨rfl, rfl⟩
          go_wp2_with fail
          refine (keepF17_is hm0.out hG.out Q3 HNM).mono ?_; rintro e w1 ⟨rfl, rfl⟩
          go_wp2_with fail
          refine (mSame18_is x6 ZX FL FM hX.out.1 hF.out hG.out HT.out HQ HNX HNL HNM).mono ?_; rintro e w3 ⟨rfl, hb3⟩
          have B3 := box hb3
          clear hb3
          go_wp2_with fail
          refine (mKeys17_is x6 FX FL l6 (hX.out.1.below B3.out) (hF.out.below B3.out) (HT.out.below B3.out) HK HNX HNL).mono ?_; rintro e w4 ⟨v4, rfl, hO4, hb4⟩
          obtain ⟨a4, c4, rfl, hS4, _⟩ := hO4.kss
          have B4 := box (B3.out.trans (hb4.mono B3.out.size))
          have S4 := box hS4
          clear hO4 hb4 hS4
          go_wp2_with fail
          refine (mKeys17_is x6 FX FM m6 (hX.out.1.below B4.out) (hG.out.below B4.out) (HT.out.below B4.out) HK2 HNX HNM).mono ?_; rintro e w5 ⟨v5, rfl, hO5, hb5⟩
          obtain ⟨a5, c5, rfl, hS5, _⟩ := hO5.kss
          have B5 := box (B4.out.trans (hb5.mono B4.out.size))
          have S4b := box (S4.out.below hb5)
          have S5 := box hS5
          clear hO5 hb5 hS5
          go_wp2_with fail
          refine (rSameKeys_is k6 k6 ZK ZK S4b.out S5.out (q := true) (box (decide_eq_true rfl))).mono ?_; rintro e w6 ⟨rfl, hb6⟩
          have B6 := box (B5.out.trans (hb6.mono B5.out.size))
          clear hb6
          go_wp2_with fail
          refine (rValid17_is x6 FX (hX.out.1.below B6.out) HV HNX).mono ?_; rintro e w7 ⟨rfl, hb7⟩
          have B7 := box (B6.out.trans (hb7.mono B6.out.size))
          clear hb7
          go_wp2_with fail
          refine (awake18_any _ (HT.out.below B7.out)).mono ?_; rintro e w8 ⟨rfl, hb8⟩
          have B8 := box (B7.out.trans (hb8.mono B7.out.size))
          clear hb8
          go_wp2
          go_ret
          exact ⟨rfl, B8.out⟩
theorem decides18_walk (p : Option Addr) (cp : Nat) (X : List AX) (a : Option Addr) (ca : Nat) (L : List F) (b : Option Addr) (cb : Nat) (M : List F) (st : Bool) (w : World) (hx0 : X.length ≤ maxLen) (hX : Axs w p X ∧ ∀ i (hi : i < X.length), X[i].2.length ≤ maxLen) (hcx : X.length ≤ cp) (hl0 : L.length ≤ maxLen) (hF : Fs w a L) (hcl : L.length ≤ ca) (hm0 : M.length ≤ maxLen) (hG : Fs w b M) (hcm : M.length ≤ cb) (hW : Wts w) :
    Calls Tryz.prog 5 #[.slice p X.length cp, .slice a L.length ca, .slice b M.length cb, .bool st] w fun e w' => e = .returned (.bool true) ∧ Below w.heap.size w w' :=
  decides18_in p cp _ X a ca _ L b cb _ M st w (box hx0) (box hX) (box hl0) (box hF) (box hm0) (box hG) hW (box rfl) (box rfl) (box rfl)
end
section
open Go.RowKit
/-- fields at a block's start, open to stores -/
def FsO (w : World) (g : Nat) (L : List F) : Prop := ∀ i (h : i < L.length), (w.cell? ⟨g, i * 2, none⟩ = some (.string L[i].1) ∧ w.cell? ⟨g, i * 2 + 1, none⟩ = some (.string L[i].2)) ∧ w.frozen? ⟨g, i * 2, none⟩ = false ∧ w.frozen? ⟨g, i * 2 + 1, none⟩ = false
theorem FsO.below {w w' : World} {g B : Nat} {L : List F} (h : FsO w g L) (hb : Below B w w') (hg : g < B) : FsO w' g L := fun i hi => by
  obtain ⟨⟨h1, h2⟩, h3, h4⟩ := h i hi
  exact ⟨⟨(hb.cell hg).trans h1, (hb.cell hg).trans h2⟩, (hb.frozen hg).trans h3, (hb.frozen hg).trans h4⟩
theorem FsO.fs {w : World} {g : Nat} {L : List F} (h : FsO w g L) : Fs w (some ⟨g, 0, none⟩) L := fun i hi => by
  obtain ⟨⟨h1, h2⟩, _⟩ := h i hi
  exact ⟨g, 0, rfl, by rw [Nat.zero_add]; exact h1, by rw [Nat.zero_add]; exact h2⟩
theorem FsO.lt {w : World} {g : Nat} {L : List F} (h : FsO w g L) (h0 : L ≠ []) : g < w.heap.size := cell_lt (h 0 (List.length_pos_iff.2 h0)).1.1
theorem addr_ne {g i j : Nat} (h : i ≠ j) : (⟨g, i, none⟩ : Addr) ≠ ⟨g, j, none⟩ := fun e => h (by injection e)
theorem FsO.set2 {w : World} {g k : Nat} {L : List F} (h : FsO w g L) (hk : k < L.length) (v : ByteArray) : FsO (w.setCell ⟨g, k * 2 + 1, none⟩ (.string v)) g (L.set k (L[k].1, v)) := fun i hi => by
  have hi2 : i < L.length := by simpa using hi
  obtain ⟨⟨h1, h2⟩, h3, h4⟩ := h i hi2
  refine ⟨?_, by rw [World.frozen?_setCell]; exact h3, by rw [World.frozen?_setCell]; exact h4⟩
  by_cases e : i = k
  · subst e
    rw [World.cell?_setCell_other _ _ _ _ (addr_ne (by omega)), World.cell?_setCell_same (h := h2), h1]
    simp
  · rw [World.cell?_setCell_other _ _ _ _ (addr_ne (by omega)), World.cell?_setCell_other _ _ _ _ (addr_ne (by omega)), h1, h2, List.getElem_set_ne (Ne.symm e)]
    exact ⟨rfl, rfl⟩
theorem FsO.set1 {w : World} {g k : Nat} {L : List F} (h : FsO w g L) (hk : k < L.length) (v : ByteArray) : FsO (w.setCell ⟨g, k * 2, none⟩ (.string v)) g (L.set k (v, L[k].2)) := fun i hi => by
  have hi2 : i < L.length := by simpa using hi
  obtain ⟨⟨h1, h2⟩, h3, h4⟩ := h i hi2
  refine ⟨?_, by rw [World.frozen?_setCell]; exact h3, by rw [World.frozen?_setCell]; exact h4⟩
  by_cases e : i = k
  · subst e
    rw [World.cell?_setCell_other (a := ⟨g, i * 2, none⟩) (b := ⟨g, i * 2 + 1, none⟩) _ _ (addr_ne (by omega)), World.cell?_setCell_same (h := h1), h2]
    simp
  · rw [World.cell?_setCell_other _ _ _ _ (addr_ne (by omega)), World.cell?_setCell_other _ _ _ _ (addr_ne (by omega)), h1, h2, List.getElem_set_ne (Ne.symm e)]
    exact ⟨rfl, rfl⟩
theorem OwnF.row {w : World} {B : Nat} {v : Value} {L : List F} (h : OwnF w B v L) (h0 : L ≠ []) : ∃ g c, v = .slice (some ⟨g, 0, none⟩) L.length c ∧ B ≤ g ∧ L.length ≤ c ∧ FsO w g L := by
  obtain ⟨a, c, e, hs, hc⟩ := h.fs
  rcases h.2 with ⟨_, hn⟩ | ⟨g, cap, cur, hv, hB, hg, _⟩
  · exact absurd (List.length_eq_zero_iff.1 hn) h0
  · rw [e] at hv
    injection hv with e1 e2 e3
    subst e1
    refine ⟨g, c, e, hB, hc, fun i hi => ?_⟩
    obtain ⟨g2, off, e4, c0, c1⟩ := hs i hi
    injection e4 with e4
    injection e4 with e4 e5 _
    subst e4; subst e5
    rw [Nat.zero_add] at c0 c1
    exact ⟨⟨c0, c1⟩, Lib.frozen_of_heap hg _, Lib.frozen_of_heap hg _⟩
def caseN (L : List F) (j : Nat) : List F := (L.take j).map lowF ++ L.drop j
theorem caseN_zero (L : List F) : caseN L 0 = L := by unfold caseN; simp
theorem caseN_all (L : List F) : caseN L L.length = L.map lowF := by unfold caseN; simp
theorem caseN_len (L : List F) (j : Nat) : (caseN L j).length = L.length := by unfold caseN; rw [List.length_append, List.length_map, List.length_take, List.length_drop]; omega
theorem caseN_at {L : List F} {j : Nat} (h : j < L.length) (h2 : j < (caseN L j).length) : (caseN L j)[j] = L[j] := by
  have hl : ((L.take j).map lowF).length = j := by rw [List.length_map, List.length_take]; omega
  have e : (caseN L j)[j]? = some L[j] := by
    unfold caseN
    rw [List.getElem?_append_right (by omega), hl, Nat.sub_self, List.getElem?_drop, Nat.add_zero, List.getElem?_eq_getElem h]
  rw [List.getElem?_eq_getElem h2] at e
  exact Option.some.inj e
theorem caseN_next {L : List F} {j : Nat} (h : j < L.length) : caseN L (j + 1) = (caseN L j).set j (lowF L[j]) := by
  unfold caseN
  have hl : ((L.take j).map lowF).length = j := by rw [List.length_map, List.length_take]; omega
  rw [List.set_append_right _ _ (by omega), hl, Nat.sub_self, List.take_succ_eq_append_getElem h, List.map_append]
  conv => rhs; rw [List.drop_eq_getElem_cons h]
  rw [List.set_cons_zero, List.append_assoc]
  rfl
theorem caseN_same {L : List F} {j : Nat} (h : j < L.length) (hk : kindN L[j].1 = 0) : caseN L (j + 1) = caseN L j := by
  rw [caseN_next h]
  have e : lowF L[j] = L[j] := by unfold lowF; rw [if_neg (fun q => q hk)]
  rw [e, ← caseN_at h (by rw [caseN_len]; exact h)]
  exact List.set_getElem_self _
theorem low_fit {L : List F} (hL : keepF L = true) : FitL (L.map lowF) := by
  obtain ⟨l1, l2⟩ := keep_parts hL
  refine fit_small (m := 0) (by rw [List.length_map]; omega) (fun i hi => ?_)
  have hi2 : i < L.length := by simpa using hi
  rw [List.getElem_map]
  have h3 := l2 i hi2
  unfold lowF
  split
  · refine ⟨by show L[i].1.size ≤ 9000; omega, ?_⟩
    show (bs (lowL L[i].2.data.toList)).size ≤ 9000
    rw [bs_size, lowL_len, size_list]; omega
  · omega
end
section
open Go.RowKit
theorem rSplitLen_is {s : ByteArray} {n : Nat} {w : World} (hs : s.size ≤ 65000) (h : Box ((splitL s.data.toList).length = n)) :
    Calls Tryz.prog 24 #[.string s] w fun e w' => ∃ p c, e = .returned (.slice p n c) ∧ Below w.heap.size w w' :=
  (rSplit_any s w hs).mono fun e w' ⟨v, h1, h2, h3⟩ => by
    obtain ⟨p, c, rfl, _, _⟩ := h2.ss
    have hl : (splitB s.data.toList).length = n := by unfold splitB; rw [List.length_map]; exact h.out
    rw [hl] at h1
    exact ⟨p, c, h1, h3⟩
theorem fs_two13 (a b c d : ByteArray) (w : World) (t : TypeId) : Fs (w.alloc (.cells #[.string a, .string b, .string c, .string d] t)) (some ⟨w.heap.size, 0, none⟩) [(a, b), (c, d)] := by
  intro i hi
  refine ⟨w.heap.size, 0, rfl, ?_, ?_⟩
  all_goals
    rw [World.cell?_alloc_mark]
    match i, hi with
    | 0, _ => rfl
    | 1, _ => rfl
end
end Go.Proofs.YtklfpkaemnhdhaaGreatDoor.Asc
