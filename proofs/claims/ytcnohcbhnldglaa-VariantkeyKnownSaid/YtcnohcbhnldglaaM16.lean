/- Merged texts: KeyLaws2. -/
import Derived.Test.YtcnohcbhnldglaaM15
set_option linter.unusedVariables false
set_option linter.unusedSimpArgs false
set_option maxRecDepth 100000
namespace Go.Proofs.Ytcnohcbhnldglaa.Asc
section
open Go.RowKit
theorem keys_known {L : List F} {X : List AX} {k : Int} {K : List KY} (h : keysR L X = (k, K)) (hv : ∀ x ∈ getL nmKey L, x.size ≤ 65000) :
    ∀ y ∈ K, y.length = X.length ∧ ∀ m (h1 : m < X.length) (h2 : m < y.length), y[m] ∈ X[m].2 := fun y hy => by
  obtain ⟨r, hr⟩ := (keys_facts h hv).2.2.2 y hy
  obtain ⟨t, h1, h2, h3⟩ := keyA_mem X r [] y hr
  obtain rfl : y = t := by simpa using h1
  exact ⟨h2, h3⟩
/-- is a value among the first m -/
def foundV (V : List ByteArray) (x : ByteArray) (m : Nat) : Bool := (V.take m).any fun z => decide (z = x)
theorem foundV_more {V : List ByteArray} {m : Nat} (h : m < V.length) (x : ByteArray) : foundV V x (m + 1) = (foundV V x m || decide (V[m] = x)) := by
  unfold foundV
  rw [take_next h, List.any_append]
  simp
theorem foundV_in {V : List ByteArray} {x : ByteArray} (h : x ∈ V) : foundV V x V.length = true := by
  unfold foundV
  rw [List.take_length, List.any_eq_true]
  exact ⟨x, h, decide_eq_true rfl⟩
def KnA (n : Nat) (W : World) (i : Value) (wr : World) : Prop := ∃ j : Nat, i = .int .i64 j ∧ j ≤ n ∧ Box (Below W.heap.size W wr)
def KnB (V : List ByteArray) (x : ByteArray) (W : World) (f i : Value) (wr : World) : Prop := ∃ j : Nat, i = .int .i64 j ∧ j ≤ V.length ∧ f = .bool (foundV V x j) ∧ Box (Below W.heap.size W wr)
set_option maxHeartbeats 4000000 in
theorem known16_walk (a : Option Addr) (cap : Nat) (L : List F) (p : Option Addr) (cp : Nat) (X : List AX) (w : World) (hl0 : L.length ≤ maxLen) (hF0 : Fs w a L) (hc : L.length ≤ cap)
    (hx0 : X.length ≤ maxLen) (hX0 : Axs w p X ∧ ∀ i (hi : i < X.length), X[i].2.length ≤ maxLen) (hcx : X.length ≤ cp) :
    Calls Try.prog 3 #[.slice a L.length cap, .slice p X.length cp] w fun e w' => e = .returned (.bool true) ∧ Below w.heap.size w w' := by
  have HF := box hF0
  have HL0 := box hl0
  have HX := box hX0
  have HX0 := box hx0
  clear hF0 hl0 hX0 hx0
  cases hkk : keepF L with
  | false =>
    have HKK := box hkk
    clear hkk
    go_enter Try.func3, Try.ntmps3
    go_wp2_with fail
    refine (keepF15_is HL0.out HF.out HKK).mono ?_; rintro e w1 ⟨rfl, rfl⟩
    go_wp2
    go_ret
    exact ⟨rfl, Below.refl _ _⟩
  | true =>
    have HKK := box hkk
    cases hka : keepA X with
    | false =>
      have HKA := box hka
      clear hkk hka
      go_enter Try.func3, Try.ntmps3
      go_wp2_with fail
      refine (keepF15_is HL0.out HF.out HKK).mono ?_; rintro e w1 ⟨rfl, rfl⟩
      go_wp2_with fail
      refine (keepAx_is HX0.out HX.out HKA).mono ?_; rintro e w1 ⟨rfl, rfl⟩
      go_wp2
      go_ret
      exact ⟨rfl, Below.refl _ _⟩
    | true =>
      have HKA := box hka
      obtain ⟨hs, hv⟩ := keep_sm15 hkk nmKey
      obtain ⟨x1, x2⟩ := keep_fit hka
      have ZX : Box (smallA X) := box (fitX.small x2)
      have S := box hs
      have HV := box hv
      have x6 : X.length ≤ 65536 := by omega
      obtain ⟨k, K, hK⟩ : ∃ k K, keysR L X = (k, K) := ⟨_, _, rfl⟩
      have H := box hK
      obtain ⟨f1, f2, f3, _⟩ := keys_facts hK hv
      have HKN := box (keys_known hK hv)
      have hM : Box (nmKey.size ≤ 65536) := box (by decide)
      by_cases hk : k = 0
      · obtain ⟨f4, _, f5⟩ := f3 hk
        have hkp : 0 < K.length := List.length_pos_iff.2 f4
        have HAN := box f5
        subst hk
        clear hkk hka hs hv x2 hK f2 f3 f4 f5
        have kp1 : (0 : Int) < (K.length : Int) := by omega
        have kp2 : (K.length : Int) ≤ 64 := by omega
        go_enter Try.func3, Try.ntmps3
        go_wp2_with fail
        refine (keepF15_is HL0.out HF.out HKK).mono ?_; rintro e w1 ⟨rfl, rfl⟩
        go_wp2_with fail
        refine (keepAx_is HX0.out HX.out HKA).mono ?_; rintro e w1 ⟨rfl, rfl⟩
        go_wp2_with fail
        refine (vParseK_is S HV x6 ZX HF.out HX.out.1 H).mono ?_; rintro e w1 ⟨p1, c1, rfl, hK1, hb1⟩
        have B1 := box hb1
        have K1 := box hK1
        have hs1 := hb1.size
        clear hb1 hK1
        go_wp2
        go_loopw [7] (fun i wr => KnA K.length w1 i wr) (fun i _ => K.length - (intOf i).toNat)
        case atStart => exact ⟨0, rfl, Nat.zero_le _, box (Below.refl _ _)⟩
        case round =>
          obtain ⟨w2, rfl⟩ : ∃ w2, w2 = wr := ⟨_, rfl⟩
          obtain ⟨i, rfl, hi, B2⟩ := hrel
          have BW2 := box (B1.out.trans (B2.out.mono hs1))
          by_cases hik : i < K.length
          · have hii : (i : Int) < (K.length : Int) := by omega
            have hi0 : (0 : Int) ≤ (i : Int) := by omega
            obtain ⟨g1, o1, v1, rfl, c0, b1, d1, rfl, hss, _⟩ := (K1.out.below B2.out) i hik
            have hall := HKN.out _ (List.getElem_mem hik)
            obtain ⟨y, hy⟩ : ∃ y, K[i] = y := ⟨_, rfl⟩
            rw [hy] at c0 hss hall
            obtain ⟨hyl, hym⟩ := hall
            have hyn : ((y.length : Int) != (X.length : Int)) = false := by simp [hyl]
            have HYL := box hyl
            have HYM := box hym
            have SY := box hss
            have C0 := box c0
            clear hy hyl hym hss c0
            have c0 := C0.out
            go_wp2
            clear c0
            go_loopw [8] (fun i wr => KnA X.length w2 i wr) (fun i _ => X.length - (intOf i).toNat)
            case atStart => exact ⟨0, rfl, Nat.zero_le _, box (Below.refl _ _)⟩
            case round =>
              obtain ⟨w3, rfl⟩ : ∃ w3, w3 = wr := ⟨_, rfl⟩
              obtain ⟨m, rfl, hm, B3⟩ := hrel
              have hs2 := B2.out.size
              have B23 := box (B2.out.trans (B3.out.mono hs2))
              have BW3 := box (B1.out.trans (B23.out.mono hs1))
              by_cases hmx : m < X.length
              · have hmi : (m : Int) < (X.length : Int) := by omega
                have hm0 : (0 : Int) ≤ (m : Int) := by omega
                have hmy : m < y.length := by rw [HYL.out]; exact hmx
                have hmyi : (m : Int) < (y.length : Int) := by omega
                obtain ⟨g2, o2, v2, rfl, cN, cV, b2, d2, rfl, hsv, _⟩ := (HX.out.1.below BW3.out) m hmx
                obtain ⟨g3, o3, rfl, e3⟩ := (SY.out.below B3.out) m hmy
                have hin := HYM.out m hmx hmy
                obtain ⟨z1, z2, z3⟩ := ZX.out m hmx
                obtain ⟨V, hV⟩ : ∃ V, X[m].2 = V := ⟨_, rfl⟩
                obtain ⟨x, hx⟩ : ∃ x, y[m] = x := ⟨_, rfl⟩
                rw [hV] at cV hsv hin z2
                rw [hx] at e3 hin
                have HIN := box hin
                have SV := box hsv
                have CV := box cV
                have E3 := box e3
                clear hV hx hin hsv e3 cV cN z1 z3
                go_wp2
                go_loopw [9, 10] (fun f i wr => KnB V x w3 f i wr) (fun _ i _ => V.length - (intOf i).toNat)
                case atStart => exact ⟨0, rfl, Nat.zero_le _, rfl, box (Below.refl _ _)⟩
                case round =>
                  obtain ⟨j, rfl, hj, rfl, B4⟩ := hrel
                  have hs3 := B23.out.size
                  have cV := (B4.out.cell (cell_lt CV.out)).trans CV.out
                  have e3 := (B4.out.cell (cell_lt E3.out)).trans E3.out
                  have c0 := ((B3.out.trans (B4.out.mono B3.out.size)).cell (cell_lt C0.out)).trans C0.out
                  have BX4 := box (B3.out.trans (B4.out.mono B3.out.size))
                  obtain ⟨q, hq⟩ : ∃ q, foundV V x j = q := ⟨_, rfl⟩
                  by_cases hjv : j < V.length
                  · have hji : (j : Int) < (V.length : Int) := by omega
                    have hj0 : (0 : Int) ≤ (j : Int) := by omega
                    obtain ⟨g4, o4, rfl, e4⟩ := (SV.out.below B4.out) j hjv
                    have hmore := foundV_more hjv x
                    obtain ⟨z, hz⟩ : ∃ z, V[j] = z := ⟨_, rfl⟩
                    rw [hz] at e4 hmore
                    cases q with
                    | true =>
                      have HM : Box (foundV V x (j + 1) = true) := box (by rw [hmore, hq]; rfl)
                      rw [hq]
                      clear hmore hz hq
                      go_wp2
                      go_quiet (fail)
                      go_wp2
                      go_roundw
                      case rel => exact ⟨j + 1, by go_num, by omega, by rw [HM.out], box (B4.out.trans ((below_drewN _ _).mono B4.out.size))⟩
                      case measure => simp [intOf]; omega
                    | false =>
                      have HM : Box (foundV V x (j + 1) = (z.toList == x.toList)) := box (by
                        rw [hmore, hq, Bool.false_or]
                        by_cases e : z = x
                        · rw [e]; simp
                        · rw [decide_eq_false e]; exact (beq_eq_false_iff_ne.2 (fun h => e (str_eq (by rw [h]; simp)))).symm)
                      rw [hq]
                      clear hmore hz hq
                      go_wp2
                      go_quiet (fail)
                      go_wp2
                      go_roundw
                      case rel => exact ⟨j + 1, by go_num, by omega, by rw [HM.out], box (B4.out.trans ((below_drewN _ _).mono B4.out.size))⟩
                      case measure => simp [intOf]; omega
                  · have hji : ¬ (j : Int) < (V.length : Int) := by omega
                    obtain rfl : j = V.length := by omega
                    rw [foundV_in HIN.out]
                    go_wp2
                    go_roundw
                    case rel => exact ⟨m + 1, by go_num, by omega, BX4⟩
                    case measure => simp [intOf]; omega
              · have hmi : ¬ (m : Int) < (X.length : Int) := by omega
                go_wp2
                go_roundw
                case rel => exact ⟨i + 1, by go_num, by omega, B23⟩
                case measure => simp [intOf]; omega
          · have hii : ¬ (i : Int) < (K.length : Int) := by omega
            go_wp2_with fail
            refine (rHas15_is S hM (box (HF.out.below BW2.out)) HAN).mono ?_; rintro e w4 ⟨rfl, hb4⟩
            have B4 := box (BW2.out.trans (hb4.mono BW2.out.size))
            clear hb4
            go_wp2_with fail
            refine (awake16_any _).mono ?_; rintro e w5 ⟨rfl, hb5⟩
            have B5 := box (B4.out.trans (hb5.mono B4.out.size))
            clear hb5
            go_wp2
            go_ret
            exact ⟨rfl, B5.out⟩
      · have hkn : (k != 0) = true := by simpa using hk
        have hK0 := f2 hk
        subst hK0
        clear hkk hka hs hv x2 hK f2 f3 f1 hk
        go_enter Try.func3, Try.ntmps3
        go_wp2_with fail
        refine (keepF15_is HL0.out HF.out HKK).mono ?_; rintro e w1 ⟨rfl, rfl⟩
        go_wp2_with fail
        refine (keepAx_is HX0.out HX.out HKA).mono ?_; rintro e w1 ⟨rfl, rfl⟩
        go_wp2_with fail
        refine (vParseK_is S HV x6 ZX HF.out HX.out.1 H).mono ?_; rintro e w1 ⟨p1, c1, rfl, hK1, hb1⟩
        have B1 := box hb1
        clear hb1 hK1
        go_wp2_with fail
        refine (awake16_any _).mono ?_; rintro e w5 ⟨rfl, hb5⟩
        have B5 := box (B1.out.trans (hb5.mono B1.out.size))
        clear hb5
        go_wp2
        go_ret
        exact ⟨rfl, B5.out⟩
end
end Go.Proofs.Ytcnohcbhnldglaa.Asc
