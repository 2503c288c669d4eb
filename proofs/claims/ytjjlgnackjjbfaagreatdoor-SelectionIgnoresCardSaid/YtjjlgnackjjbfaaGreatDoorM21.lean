/- Merged texts: SelLaws4 SelLaws5. -/
import Derived.Test.YtjjlgnackjjbfaaGreatDoorM05
import Derived.Test.YtjjlgnackjjbfaaGreatDoorM09
import Derived.Test.YtjjlgnackjjbfaaGreatDoorM20
set_option linter.unusedVariables false
set_option linter.unusedSimpArgs false
set_option maxRecDepth 100000
namespace Go.Proofs.YtjjlgnackjjbfaaGreatDoor.Asc
section
open Go.RowKit
def PdRel (R : List (List ByteArray)) (W : World) (n i : Value) (wr : World) : Prop :=
  ∃ j : Nat, i = .int .i64 j ∧ j ≤ R.length ∧ n = .int .i64 (numK (R.take j)) ∧ Box (Below W.heap.size W wr)
theorem numK_take_le {R : List (List ByteArray)} {j : Nat} (hR : ∀ r ∈ R, r.length ≤ 16) (h4 : R.length ≤ 4) : numK (R.take j) ≤ 65536 := by
  rw [← prodK_len]; exact take_len hR h4
set_option maxHeartbeats 4000000 in
theorem product17_in (p : Option Addr) (cp nx : Nat) (X : List AX) (a : Option Addr) (cap nl : Nat) (L : List F) (st : Bool) (w : World) (hx0 : Box (X.length ≤ maxLen)) (hX : Box (Axs w p X ∧ ∀ i (hi : i < X.length), X[i].2.length ≤ maxLen)) (hl0 : Box (L.length ≤ maxLen)) (hF : Box (Fs w a L)) (hW : Wts w) (HNX : Box (X.length = nx)) (HNL : Box (L.length = nl)) :
    Calls Tryz.prog 7 #[.slice p nx cp, .slice a nl cap, .bool st] w fun e w' => e = .returned (.bool true) ∧ Below w.heap.size w w' := by
  have HT := box hW
  obtain ⟨q1, hq1⟩ : ∃ q, keepA X = q := ⟨_, rfl⟩
  obtain ⟨q2, hq2⟩ : ∃ q, keepF L = q := ⟨_, rfl⟩
  obtain ⟨q3, hq3⟩ : ∃ q, validX X = q := ⟨_, rfl⟩
  have Q1 := box hq1
  have Q2 := box hq2
  have Q3 := box hq3
  cases q1 with
  | false =>
    clear hq1 hq2 hq3 hW
    go_enter Tryz.func7, Tryz.ntmps7
    go_wp2_with fail
    refine (keepA17_is hx0.out hX.out Q1 HNX).mono ?_; rintro e w1 ⟨rfl, rfl⟩
    go_wp2
    go_ret
    exact ⟨rfl, Below.refl _ _⟩
  | true =>
    cases q2 with
    | false =>
      clear hq1 hq2 hq3 hW
      go_enter Tryz.func7, Tryz.ntmps7
      go_wp2_with fail
      refine (keepA17_is hx0.out hX.out Q1 HNX).mono ?_; rintro e w1 ⟨rfl, rfl⟩
      go_wp2_with fail
      refine (keepF17_is hl0.out hF.out Q2 HNL).mono ?_; rintro e w1 ⟨rfl, rfl⟩
      go_wp2
      go_ret
      exact ⟨rfl, Below.refl _ _⟩
    | true =>
      have FX := box (fit_keepA hq1)
      have FL := box (fit_keepF hq2)
      have x6 : X.length ≤ 65536 := by have := (keep_fit hq1).1; omega
      have l6 : L.length ≤ 65536 := by have := (keep_parts hq2).1; omega
      cases q3 with
      | false =>
        clear hq1 hq2 hq3 hW
        go_enter Tryz.func7, Tryz.ntmps7
        go_wp2_with fail
        refine (keepA17_is hx0.out hX.out Q1 HNX).mono ?_; rintro e w1 ⟨rfl, rfl⟩
        go_wp2_with fail
        refine (keepF17_is hl0.out hF.out Q2 HNL).mono ?_; rintro e w1 ⟨rfl, rfl⟩
        go_wp2_with fail
        refine (rValid17_is x6 FX hX.out.1 Q3 HNX).mono ?_; rintro e w1 ⟨rfl, hb1⟩
        have B1 := box hb1
        clear hb1
        go_wp2
        go_ret
        exact ⟨rfl, B1.out⟩
      | true =>
        have hx4 : X.length ≤ 4 := (validX_len hq3).2
        obtain ⟨K, hK⟩ : ∃ K, keysS X L st = K := ⟨_, rfl⟩
        have HK := box hK
        obtain ⟨k1, k2, k3⟩ := keys_small17 (L := L) (st := st) FX.out
        rw [hK] at k1 k2 k3
        have HK4 := box k3
        have k6 : K.length ≤ 65536 := by omega
        obtain ⟨R, hR⟩ : ∃ R, rowsS X L st = R := ⟨_, rfl⟩
        have HRL : Box (R.length = nx) := box (by rw [← hR, ← HNX.out]; unfold rowsS; rw [List.length_map])
        have HR16 : Box (∀ r ∈ R, r.length ≤ 16) := box (by
          rw [← hR]; intro r hr
          obtain ⟨x, _, rfl⟩ := rows_mem hr
          exact rankS_len _ _ _)
        have HR4 : Box (R.length ≤ 4) := box (by rw [HRL.out, ← HNX.out]; exact hx4)
        have HRA : Box (∀ i (h : i < X.length) (h2 : i < R.length), R[i] = rankS X[i] L st) := box (by
          subst hR; intro i h h2; exact List.getElem_map _)
        have HKL : Box (K.length = min (numK R) 64) := box (by rw [← hK, ← hR]; exact keysS_len hq3)
        have HKN : Box (∀ i j (hij : j < i) (hi : i < K.length), K[i] ≠ K[j]'(by omega)) := box (fun i j hij hi => keysS_ne_at hK hij hi)
        clear hq1 hq2 hq3 hW hK k1 k2 k3 hR
        go_enter Tryz.func7, Tryz.ntmps7
        go_wp2_with fail
        refine (keepA17_is hx0.out hX.out Q1 HNX).mono ?_; rintro e w1 ⟨rfl, rfl⟩
        go_wp2_with fail
        refine (keepF17_is hl0.out hF.out Q2 HNL).mono ?_; rintro e w1 ⟨rfl, rfl⟩
        go_wp2_with fail
        refine (rValid17_is x6 FX hX.out.1 Q3 HNX).mono ?_; rintro e w1 ⟨rfl, hb1⟩
        have B1 := box hb1
        clear hb1
        go_wp2
        go_loopw [7, 8] (fun b i wr => PdRel R w b i wr) (fun _ i _ => nx - (intOf i).toNat)
        case atStart => exact ⟨0, rfl, Nat.zero_le _, rfl, B1⟩
        case round =>
          obtain ⟨j, rfl, hj, rfl, B4⟩ := hrel
          obtain ⟨z, hz⟩ : ∃ z, numK (R.take j) = z := ⟨_, rfl⟩
          have hz6 : z ≤ 65536 := by rw [← hz]; exact numK_take_le HR16.out HR4.out
          rw [hz]
          have hs4 := B4.out.size
          by_cases hlt : j < nx
          · have hji : (j : Int) < (nx : Int) := by omega
            have hj0 : (0 : Int) ≤ (j : Int) := by omega
            have hjX : j < X.length := by have := HNX.out; omega
            have hjR : j < R.length := by rw [HRL.out]; exact hlt
            obtain ⟨g, off, v, rfl, c0, c1, b, c, rfl, hss, hcc⟩ := (hX.out.1.below B4.out) j hjX
            obtain ⟨z1, z2, z3⟩ := FX.out j hjX
            obtain ⟨n, hn⟩ : ∃ n, X[j].1 = n := ⟨_, rfl⟩
            obtain ⟨V, hV⟩ : ∃ V, X[j].2 = V := ⟨_, rfl⟩
            have hxi : X[j] = (n, V) := by rw [← hn, ← hV]
            rw [hn] at c0 z1
            rw [hV] at c1 hss z2 hcc
            have Z3 : Box (∀ j (hj : j < V.length), V[j].size ≤ 20000) := box (by subst hV; exact z3)
            obtain ⟨m, hm⟩ : ∃ m, V.length = m := ⟨_, rfl⟩
            have HM := box hm
            rw [hm] at c1
            obtain ⟨r, hr⟩ : ∃ r, rankS (n, V) L st = r := ⟨_, rfl⟩
            have HR := box hr
            have HRI : R[j] = r := by rw [HRA.out j hjX hjR, hxi]; exact hr
            obtain ⟨t, ht⟩ : ∃ t, z * r.length = t := ⟨_, rfl⟩
            have HZ : Box (numK (R.take (j + 1)) = t) := box (by rw [numK_take hjR, HRI, hz]; exact ht)
            have ht6 : t ≤ 65536 := by rw [← HZ.out]; exact numK_take_le HR16.out HR4.out
            have hti : (z : Int) * (r.length : Int) = (t : Int) := by rw [← ht]; simp
            have SS := box hss
            have F4 := box (hF.out.below B4.out)
            have T4 := HT.out.below B4.out
            clear hn hV hss z3 hxi hm hr hz HRI ht
            go_wp2_with fail
            refine (mRanked17_is z1 z2 hcc Z3 FL SS.out F4.out T4 HR HM HNL).mono ?_; rintro e w5 ⟨v5, rfl, hO5, hb5⟩
            obtain ⟨a5, c5, rfl, _, _⟩ := hO5.ss
            have B5 := box (B4.out.trans (hb5.mono hs4))
            clear hO5 hb5 T4 c0 c1
            go_wp2
            go_roundw
            case rel => exact ⟨j + 1, by go_num, by omega, by rw [HZ.out], B5⟩
            case measure => simp [intOf]; omega
          · have hji : ¬ (j : Int) < (nx : Int) := by omega
            have HZN : Box (numK R = z) := box (by rw [← hz, List.take_of_length_le (by have := HRL.out; omega)])
            clear hz
            go_wp2_with fail
            refine (mKeys17_is x6 FX FL l6 (hX.out.1.below B4.out) (hF.out.below B4.out) (HT.out.below B4.out) HK HNX HNL).mono ?_; rintro e w6 ⟨v6, rfl, hO6, hb6⟩
            obtain ⟨a6, c6, rfl, hS6, _⟩ := hO6.kss
            have B6 := box (B4.out.trans (hb6.mono hs4))
            have hs6 := B6.out.size
            have S6 := box hS6
            clear hO6 hb6 hS6
            go_wp2
            go_loopw [10] (fun i wr => CnRel K.length w6 i wr) (fun i _ => K.length - (intOf i).toNat)
            case atStart => exact ⟨0, rfl, Nat.zero_le _, box (Below.refl _ _)⟩
            case round =>
              obtain ⟨i, rfl, hi, B7⟩ := hrel
              by_cases hil : i < K.length
              · have hii : (i : Int) < (K.length : Int) := by omega
                have hi0 : (0 : Int) ≤ (i : Int) := by omega
                go_wp2
                go_loopw [11] (fun s wr => CnRel i w6 s wr) (fun s _ => i - (intOf s).toNat)
                case atStart => exact ⟨0, rfl, Nat.zero_le _, B7⟩
                case round =>
                  obtain ⟨s, rfl, hs, B8⟩ := hrel
                  by_cases hsi : s < i
                  · have hsi2 : (s : Int) < (i : Int) := by omega
                    have hs0 : (0 : Int) ≤ (s : Int) := by omega
                    have hsl : (s : Int) < (K.length : Int) := by omega
                    have hslN : s < K.length := by omega
                    obtain ⟨W8, rfl⟩ : ∃ W8, W8 = wr := ⟨_, rfl⟩
                    have K8 := S6.out.below B8.out
                    obtain ⟨gi, oi, vi, rfl, ci, bi, cci, rfl, hSi, _⟩ := K8 i hil
                    obtain ⟨gj, oj, vj, e, cj, bj, ccj, rfl, hSj, _⟩ := K8 s hslN
                    cases e
                    obtain ⟨yi, hyi⟩ : ∃ y, K[i] = y := ⟨_, rfl⟩
                    obtain ⟨yj, hyj⟩ : ∃ y, K[s] = y := ⟨_, rfl⟩
                    have HNE : Box (decide (yi = yj) = false) := box (decide_eq_false (by rw [← hyi, ← hyj]; exact HKN.out i s hsi hil))
                    have hyi6 : yi.length ≤ 65536 := by rw [← hyi]; have := HK4.out _ (List.getElem_mem hil); omega
                    have hyj6 : yj.length ≤ 65536 := by rw [← hyj]; have := HK4.out _ (List.getElem_mem hslN); omega
                    rw [hyi] at ci hSi
                    rw [hyj] at cj hSj
                    have SI := box hSi
                    have SJ := box hSj
                    clear hSi hSj hyi hyj K8
                    go_wp2
                    refine wp_region_held_drew (S := (fun w' : World => (w'.cell? ⟨gi, oi + i, none⟩ = some (.slice bi yi.length cci) ∧ w'.cell? ⟨gi, oi + s, none⟩ = some (.slice bj yj.length ccj)) ∧ Box (Below w6.heap.size w6 w' ∧ Below W8.heap.size W8 w'))) (by kernel_rfl) ⟨⟨ci, cj⟩, box ⟨B8.out.drew, (Below.refl _ _).drew⟩⟩ (fun hHeld => ?_)
                    refine wpAnyH_take (i := 0) (oi := { dst := some 56, op := Op.move (Operand.tmp 9), type := 36, pos := "law.go:100", after := #[], guard := none }) (v := ?v0z) rfl (by kernel_rfl) (by kernel_rfl) (by kernel_rfl) (fun _ _ _ h => h) (Or.inl ⟨by rfl, ?y0z⟩) (by assumption) ?r0z
                    case y0z => (intro w hSw; (try dsimp only at hSw); go_simp; first | done | with_reducible rfl)
                    try simp only [Act.put, List.setIfInBounds_toArray, List.set_cons_zero, List.set_cons_succ]
                    refine wpAnyH_take (i := 1) (oi := { dst := some 57, op := Op.move (Operand.tmp 10), type := 3, pos := "law.go:100", after := #[], guard := none }) (v := ?v1z) rfl (by kernel_rfl) (by kernel_rfl) (by kernel_rfl) (fun _ _ _ h => h) (Or.inl ⟨by rfl, ?y1z⟩) (by assumption) ?r1z
                    case y1z => (intro w hSw; (try dsimp only at hSw); go_simp; first | done | with_reducible rfl)
                    try simp only [Act.put, List.setIfInBounds_toArray, List.set_cons_zero, List.set_cons_succ]
                    refine wpAnyH_take (i := 2) (oi := { dst := some 58, op := Op.indexAddr 36 (Operand.tmp 56) (Operand.tmp 57), type := 0, pos := "law.go:100", after := #[{ on := 0, ground := Ground.data }, { on := 1, ground := Ground.data }], guard := none }) (v := ?v2z) rfl (by kernel_rfl) (by kernel_rfl) (by kernel_rfl) (fun _ _ _ h => h) (Or.inl ⟨by rfl, ?y2z⟩) (by assumption) ?r2z
                    case y2z => (intro w hSw; (try dsimp only at hSw); go_simp; first | done | with_reducible rfl)
                    try simp only [Act.put, List.setIfInBounds_toArray, List.set_cons_zero, List.set_cons_succ]
                    refine wpAnyH_take (i := 3) (oi := { dst := some 59, op := Op.load 22 (Operand.tmp 58), type := 22, pos := "law.go:100", after := #[{ on := 2, ground := Ground.data }], guard := none }) (v := ?v3z) rfl (by kernel_rfl) (by kernel_rfl) (by kernel_rfl) (fun _ _ _ h => h) (Or.inl ⟨by rfl, ?y3z⟩) (by assumption) ?r3z
                    case y3z => (intro w hSw; (try dsimp only at hSw); go_simp; first | done | with_reducible rfl)
                    try simp only [Act.put, List.setIfInBounds_toArray, List.set_cons_zero, List.set_cons_succ]
                    refine wpAnyH_take (i := 4) (oi := { dst := some 60, op := Op.move (Operand.tmp 9), type := 36, pos := "law.go:100", after := #[], guard := none }) (v := ?v4z) rfl (by kernel_rfl) (by kernel_rfl) (by kernel_rfl) (fun _ _ _ h => h) (Or.inl ⟨by rfl, ?y4z⟩) (by assumption) ?r4z
                    case y4z => (intro w hSw; (try dsimp only at hSw); go_simp; first | done | with_reducible rfl)
                    try simp only [Act.put, List.setIfInBounds_toArray, List.set_cons_zero, List.set_cons_succ]
                    refine wpAnyH_take (i := 5) (oi := { dst := some 61, op := Op.move (Operand.tmp 11), type := 3, pos := "law.go:100", after := #[], guard := none }) (v := ?v5z) rfl (by kernel_rfl) (by kernel_rfl) (by kernel_rfl) (fun _ _ _ h => h) (Or.inl ⟨by rfl, ?y5z⟩) (by assumption) ?r5z
                    case y5z => (intro w hSw; (try dsimp only at hSw); go_simp; first | done | with_reducible rfl)
                    try simp only [Act.put, List.setIfInBounds_toArray, List.set_cons_zero, List.set_cons_succ]
                    refine wpAnyH_take (i := 6) (oi := { dst := some 62, op := Op.indexAddr 36 (Operand.tmp 60) (Operand.tmp 61), type := 0, pos := "law.go:100", after := #[{ on := 4, ground := Ground.data }, { on := 5, ground := Ground.data }], guard := none }) (v := ?v6z) rfl (by kernel_rfl) (by kernel_rfl) (by kernel_rfl) (fun _ _ _ h => h) (Or.inl ⟨by rfl, ?y6z⟩) (by assumption) ?r6z
                    case y6z => (intro w hSw; (try dsimp only at hSw); go_simp; first | done | with_reducible rfl)
                    try simp only [Act.put, List.setIfInBounds_toArray, List.set_cons_zero, List.set_cons_succ]
                    refine wpAnyH_take (i := 7) (oi := { dst := some 63, op := Op.load 22 (Operand.tmp 62), type := 22, pos := "law.go:100", after := #[{ on := 6, ground := Ground.data }], guard := none }) (v := ?v7z) rfl (by kernel_rfl) (by kernel_rfl) (by kernel_rfl) (fun _ _ _ h => h) (Or.inl ⟨by rfl, ?y7z⟩) (by assumption) ?r7z
                    case y7z => (intro w hSw; (try dsimp only at hSw); go_simp; first | done | with_reducible rfl)
                    try simp only [Act.put, List.setIfInBounds_toArray, List.set_cons_zero, List.set_cons_succ]
                    refine wpAnyH_ready (rs := [8]) (by kernel_rfl) (by simp) ?_
                    refine AllReadyH.cons (o := { dst := some 64, op := Op.call { callee := Callee.value (Operand.func 11), args := #[Operand.tmp 59, Operand.tmp 63], argTypes := #[22, 22] }, type := 4, pos := "law.go:100", after := #[{ on := 3, ground := Ground.data }, { on := 7, ground := Ground.data }], guard := none }) rfl (fun K hK => ?_) AllReadyH.nil
                    go_simp
                    refine (kSame17_is hyi6 hyj6 (SI.out.below hHeld.2.out.2) (SJ.out.below hHeld.2.out.2) HNE).mono ?_; rintro e w9 ⟨rfl, hb9⟩
                    have B9 := box (hHeld.2.out.1.trans (hb9.mono hHeld.2.out.1.size))
                    have BL9 := box (hHeld.2.out.2.trans (hb9.mono hHeld.2.out.2.size))
                    clear hb9
                    go_wp2_with fail
                    refine hK.out _ _ ⟨⟨(BL9.out.cell (cell_lt ci)).trans ci, (BL9.out.cell (cell_lt cj)).trans cj⟩, box ⟨B9.out, BL9.out⟩⟩ (fun hHeld => ?_)
                    clear hK K
                    try simp only [Act.put, List.setIfInBounds_toArray, List.set_cons_zero, List.set_cons_succ]
                    refine wpAnyH_done (by kernel_rfl) ?_ _
                    clear hHeld
                    go_wp2
                    go_roundw
                    case rel => exact ⟨s + 1, by go_num, by omega, B9⟩
                    case measure => simp [intOf]; omega
                  · have hsi2 : ¬ (s : Int) < (i : Int) := by omega
                    go_wp2
                    go_roundw
                    case rel => exact ⟨i + 1, by go_num, by omega, B8⟩
                    case measure => simp [intOf]; omega
              · have hii : ¬ (i : Int) < (K.length : Int) := by omega
                have B8 := box (B6.out.trans (B7.out.mono hs6))
                by_cases h64 : 64 < z
                · have h64i : (64 : Int) < (z : Int) := by omega
                  have hKe : ((K.length : Int) == 64) = true := by rw [HKL.out, HZN.out, beq_iff_eq]; omega
                  go_wp2_with fail
                  refine (awake17_any _ (HT.out.below B8.out)).mono ?_; rintro e w9 ⟨rfl, hb9⟩
                  have B9 := box (B8.out.trans (hb9.mono B8.out.size))
                  clear hb9
                  go_wp2
                  go_ret
                  exact ⟨rfl, B9.out⟩
                · have h64i : ¬ (64 : Int) < (z : Int) := by omega
                  have hKe : ((K.length : Int) == (z : Int)) = true := by rw [HKL.out, HZN.out, beq_iff_eq]; omega
                  go_wp2_with fail
                  refine (awake17_any _ (HT.out.below B8.out)).mono ?_; rintro e w9 ⟨rfl, hb9⟩
                  have B9 := box (B8.out.trans (hb9.mono B8.out.size))
                  clear hb9
                  go_wp2
                  go_ret
                  exact ⟨rfl, B9.out⟩
theorem product17_walk (p : Option Addr) (cp : Nat) (X : List AX) (a : Option Addr) (cap : Nat) (L : List F) (st : Bool) (w : World) (hx0 : X.length ≤ maxLen) (hX : Axs w p X ∧ ∀ i (hi : i < X.length), X[i].2.length ≤ maxLen) (hcx : X.length ≤ cp) (hl0 : L.length ≤ maxLen) (hF : Fs w a L) (hcl : L.length ≤ cap) (hW : Wts w) :
    Calls Tryz.prog 7 #[.slice p X.length cp, .slice a L.length cap, .bool st] w fun e w' => e = .returned (.bool true) ∧ Below w.heap.size w w' :=
  product17_in p cp _ X a cap _ L st w (box hx0) (box hX) (box hl0) (box hF) hW (box rfl) (box rfl)
end
section
open Go.RowKit Go.ChangeShapes Go.WideShapes Go.Deep
theorem open_fieldsn {H : Type} {enc : TypeId × Value → H} {W : World} {base : Nat} {sp : Nat → Bool} {held : Bool} {r : Reach} {b0 : Nat} {v : Value} {d : DataW H} {p : List MemPlace}
    (hval : Value.okWide Tryz.prog W r b0 25 v) (h : DataW.Trod enc Tryz.prog W base sp held 25 v d p) :
    ∃ (a : Option Addr) (cap : Nat) (L : List F), v = .slice a L.length cap ∧ L.length ≤ maxLen ∧ Fs W a L ∧ (L.length ≤ cap ∧ (a = none → cap = 0)) := by
  have h2 := h
  obtain ⟨a, cap, L, rfl, h3, h4, h5⟩ := open_fields hval h
  refine ⟨a, cap, L, rfl, h3, h4, h5, fun ha => ?_⟩
  subst ha
  obtain ⟨fuel, hf⟩ := h2
  rcases open_slice_pairs Tryz.underlying25 Tryz.underlying46 (by kernel_rfl) rfl rfl (by kernel_rfl) (by kernel_rfl) hf with ⟨hcs, hx⟩ | ⟨a, len', cap', m, n, V0, V1, D0, D1, P0, P1, hcs, _⟩
  · simp [Value.cells] at hcs
    exact hcs.2
  · simp [Value.cells] at hcs
section
variable {ops : Array Oper} {o : Oper} {a : Act} {K : Act → World → Prop} {Q : Exit → Act → World → Prop} {E : Prop}
/-- append of a list of fields, nil or not, empty or not, at a step of a region that draws its order -/
theorem step_append_flds (w : World) (hgd : o.guard = none) (s x : Operand)
    (ho : o.op = .call { callee := .builtin .append, args := #[s, x], argTypes := #[25, 25] })
    (B : Nat) (v : Value) (L M : List F) (hs : a.eval s = v) (hown : OwnF w B v L)
    (ad : Option Addr) (m c : Nat) (hx : a.eval x = .slice ad m c) (hm : M.length = m) (hn : ad = none → c = 0) (hM : Fs w ad M) (hl : L.length ≤ 65536) (hm6 : M.length ≤ 65536) (hB : B ≤ w.heap.size)
    (h : ∀ v' w', OwnF w' B v' (L ++ M) → Below B w w' → K (a.put o.dst v') w') :
    if Region.wanted o (yielded ops a.tmps) = true then Oper.wp Tryz.prog o a w K Q else E := by
  subst hm
  obtain ⟨i0, hi0, hz0, hz1, hz2⟩ := info_parts info_fld
  have hw : Region.wanted o (yielded ops a.tmps) = true := by simp [Region.wanted, hgd]
  rw [if_pos hw]
  rcases ad with _ | ad
  · have hc := hn rfl
    subst hc
    have he : M = [] := by
      rcases M with _ | ⟨p, M⟩
      · rfl
      · obtain ⟨g, off, e, _⟩ := hM 0 (by simp)
        cases e
    subst he
    rw [List.append_nil] at h
    have hrun := run_append_owned_none (P := Tryz.prog) (w := w) B 25 o.type 46 i0 2 Tryz.underlying25 hi0 v L.length (cellsF L) hown
    have hK := h v w hown (Below.refl _ _)
    unfold Oper.wp
    simp only [List.length_nil] at hx
    simp [execOp, ho, resolve, invoke, builtin, hs, hx, hrun, Result.andThen]
    exact hK
  · refine wp_append_own (P := Tryz.prog) w s x 25 ho B 46 i0 _ 2 32 Tryz.underlying25 hi0 hz0 hz1 hz2 rfl (by decide) v L.length (cellsF L) hs hown ad M.length c (cellsF M) hx (cellsF_len M) hM.news (cellsF_one M) (by unfold maxLen; omega) (by omega) hB ?_
    intro v' w' q1 q2 _
    exact h v' w' (by simpa [OwnF, cellsF_app] using q1) ((Below.refl _ _).grown q2 hB (fun k hk => own_block hown k hk))
end
theorem wpList_append_flds17 (w : World) {ops : Array Oper} {rest : List Oper} {o : Oper} {a : Act} {Q : Exit → Act → World → Prop} (hgd : o.guard = none) (s x : Operand)
    (ho : o.op = .call { callee := .builtin .append, args := #[s, x], argTypes := #[25, 25] })
    (B : Nat) (v : Value) (L M : List F) (hs : a.eval s = v) (hown : OwnF w B v L)
    (ad : Option Addr) (m c : Nat) (hx : a.eval x = .slice ad m c) (hm : M.length = m) (hn : ad = none → c = 0) (hM : Fs w ad M) (hl : L.length ≤ 65536) (hm6 : M.length ≤ 65536) (hB : B ≤ w.heap.size)
    (h : ∀ v' w', OwnF w' B v' (L ++ M) → Below B w w' → wpList Tryz.prog ops Q rest (a.put o.dst v') w') : wpList Tryz.prog ops Q (o :: rest) a w := by
  subst hm
  exact wpList_append_flds w hgd s x ho B v L M hs hown ad c hx hn hM hl hm6 hB h
theorem Fs.drop17 {w : World} {ad : Addr} {L : List F} (h : Fs w (some ad) L) (k : Nat) : Fs w (some (ad.add (k * 2))) (L.drop k) := fun i hi => by
  have h1 : k + i < L.length := by rw [List.length_drop] at hi; omega
  obtain ⟨g, off, e, c0, c1⟩ := h (k + i) h1
  cases e
  refine ⟨g, off + k * 2, by rw [add_at], ?_, ?_⟩
  · rw [List.getElem_drop, show off + k * 2 + i * 2 = off + (k + i) * 2 from by omega]; exact c0
  · rw [List.getElem_drop, show off + k * 2 + i * 2 + 1 = off + (k + i) * 2 + 1 from by omega]; exact c1
theorem Fs.nil17 (w : World) (a : Option Addr) : Fs w a [] := fun i hi => absurd hi (by simp)
theorem Fs.take17 {w : World} {a : Option Addr} {L : List F} (h : Fs w a L) (k : Nat) : Fs w a (L.take k) := fun i hi => by
  have h1 : i < L.length := by rw [List.length_take] at hi; omega
  obtain ⟨g, off, e, c0, c1⟩ := h i h1
  exact ⟨g, off, e, by rw [List.getElem_take]; exact c0, by rw [List.getElem_take]; exact c1⟩
def ImRel (X : List AX) (fn : ByteArray) (W : World) (i : Value) (wr : World) : Prop :=
  ∃ j : Nat, i = .int .i64 j ∧ j ≤ X.length ∧ (∀ x ∈ X.take j, foldL x.1.data.toList fn.data.toList = false) ∧ Box (Below W.heap.size W wr)
theorem mid_fit {L : List F} {f : F} {k : Nat} (hl : L.length ≤ 70) (h : ∀ i (hi : i < L.length), L[i].1.size ≤ 300 ∧ L[i].2.size ≤ 300) (h1 : f.1.size ≤ 300) (h2 : f.2.size ≤ 300) : FitL (midF L f k) ∧ (midF L f k).length ≤ 65536 := by
  have hlen : (midF L f k).length ≤ 65536 := by
    unfold midF
    rw [List.length_append, List.length_cons, List.length_take, List.length_drop]; omega
  refine ⟨fit_small (m := 0) hlen (fun i hi => ?_), hlen⟩
  have hm := List.getElem_mem hi
  obtain ⟨p, hp⟩ : ∃ p, (midF L f k)[i] = p := ⟨_, rfl⟩
  rw [hp] at hm ⊢
  unfold midF at hm
  rcases List.mem_append.1 hm with h3 | h3
  · obtain ⟨j, hj, rfl⟩ := List.getElem_of_mem (List.mem_of_mem_take h3)
    have := h j hj; omega
  · rcases List.mem_cons.1 h3 with rfl | h3
    · omega
    · obtain ⟨j, hj, rfl⟩ := List.getElem_of_mem (List.mem_of_mem_drop h3)
      have := h j hj; omega
def IgPost (w : World) (e : Ending) (w' : World) : Prop := e = .returned (.bool true) ∧ Below w.heap.size w w'
theorem ignores17_no0 {p : Option Addr} {cp nx : Nat} {X : List AX} {a : Option Addr} {cap nl : Nat} {L : List F} {fn fv : ByteArray} {z : Int} {st : Bool} {w : World} (hx0 : Box (X.length ≤ maxLen)) (hX : Box (Axs w p X ∧ ∀ i (hi : i < X.length), X[i].2.length ≤ maxLen)) (hl0 : Box (L.length ≤ maxLen)) (hF : Box (Fs w a L)) (HNX : Box (X.length = nx)) (HNL : Box (L.length = nl)) (Q1 : Box (keepA X = false)) :
    Calls Tryz.prog 8 #[.slice p nx cp, .slice a nl cap, .agg #[.string fn, .string fv], .int .i64 z, .bool st] w fun e w' => IgPost w e w' := by
  have B0 := box (below_new w (.cells #[.string fn, .string fv] 46))
  have C0 := box (C2.new (.string fn) (.string fv) w 46)
  obtain ⟨w0, hw0⟩ : ∃ w0, w.alloc (.cells #[.string fn, .string fv] 46) = w0 := ⟨_, rfl⟩
  have HW0 := box hw0
  rw [hw0] at B0 C0
  have X0 : Box (Axs w0 p X ∧ ∀ i (hi : i < X.length), X[i].2.length ≤ maxLen) := box ⟨hX.out.1.below B0.out, hX.out.2⟩
  have F0 := box (hF.out.below B0.out)
  have c00 := C0.out.1.1
  have c01 := C0.out.1.2
  clear hw0
  go_enter Tryz.func8, Tryz.ntmps8
  go_wp2_with fail
  rw [HW0.out]
  refine (keepA17_is hx0.out X0.out Q1 HNX).mono ?_; rintro e w1 ⟨rfl, rfl⟩
  go_wp2
  go_ret
  exact ⟨rfl, B0.out⟩
theorem ignores17_no1 {p : Option Addr} {cp nx : Nat} {X : List AX} {a : Option Addr} {cap nl : Nat} {L : List F} {fn fv : ByteArray} {z : Int} {st : Bool} {w : World} (hx0 : Box (X.length ≤ maxLen)) (hX : Box (Axs w p X ∧ ∀ i (hi : i < X.length), X[i].2.length ≤ maxLen)) (hl0 : Box (L.length ≤ maxLen)) (hF : Box (Fs w a L)) (HNX : Box (X.length = nx)) (HNL : Box (L.length = nl)) (Q1 : Box (keepA X = true)) (Q2 : Box (keepF L = false)) :
    Calls Tryz.prog 8 #[.slice p nx cp, .slice a nl cap, .agg #[.string fn, .string fv], .int .i64 z, .bool st] w fun e w' => IgPost w e w' := by
  have B0 := box (below_new w (.cells #[.string fn, .string fv] 46))
  have C0 := box (C2.new (.string fn) (.string fv) w 46)
  obtain ⟨w0, hw0⟩ : ∃ w0, w.alloc (.cells #[.string fn, .string fv] 46) = w0 := ⟨_, rfl⟩
  have HW0 := box hw0
  rw [hw0] at B0 C0
  have X0 : Box (Axs w0 p X ∧ ∀ i (hi : i < X.length), X[i].2.length ≤ maxLen) := box ⟨hX.out.1.below B0.out, hX.out.2⟩
  have F0 := box (hF.out.below B0.out)
  have c00 := C0.out.1.1
  have c01 := C0.out.1.2
  clear hw0
  go_enter Tryz.func8, Tryz.ntmps8
  go_wp2_with fail
  rw [HW0.out]
  refine (keepA17_is hx0.out X0.out Q1 HNX).mono ?_; rintro e w1 ⟨rfl, rfl⟩
  go_wp2_with fail
  refine (keepF17_is hl0.out F0.out Q2 HNL).mono ?_; rintro e w1 ⟨rfl, rfl⟩
  go_wp2
  go_ret
  exact ⟨rfl, B0.out⟩
theorem ignores17_no2 {p : Option Addr} {cp nx : Nat} {X : List AX} {a : Option Addr} {cap nl : Nat} {L : List F} {fn fv : ByteArray} {z : Int} {st : Bool} {w : World} (hx0 : Box (X.length ≤ maxLen)) (hX : Box (Axs w p X ∧ ∀ i (hi : i < X.length), X[i].2.length ≤ maxLen)) (hl0 : Box (L.length ≤ maxLen)) (hF : Box (Fs w a L)) (HNX : Box (X.length = nx)) (HNL : Box (L.length = nl)) (Q1 : Box (keepA X = true)) (Q2 : Box (keepF L = true)) (h1 : 100 < fn.size) :
    Calls Tryz.prog 8 #[.slice p nx cp, .slice a nl cap, .agg #[.string fn, .string fv], .int .i64 z, .bool st] w fun e w' => IgPost w e w' := by
  have B0 := box (below_new w (.cells #[.string fn, .string fv] 46))
  have C0 := box (C2.new (.string fn) (.string fv) w 46)
  obtain ⟨w0, hw0⟩ : ∃ w0, w.alloc (.cells #[.string fn, .string fv] 46) = w0 := ⟨_, rfl⟩
  have HW0 := box hw0
  rw [hw0] at B0 C0
  have X0 : Box (Axs w0 p X ∧ ∀ i (hi : i < X.length), X[i].2.length ≤ maxLen) := box ⟨hX.out.1.below B0.out, hX.out.2⟩
  have F0 := box (hF.out.below B0.out)
  have c00 := C0.out.1.1
  have c01 := C0.out.1.2
  have hf1 : (100 : Int) < (fn.size : Int) := by omega
  clear hw0
  go_enter Tryz.func8, Tryz.ntmps8
  go_wp2_with fail
  rw [HW0.out]
  refine (keepA17_is hx0.out X0.out Q1 HNX).mono ?_; rintro e w1 ⟨rfl, rfl⟩
  go_wp2_with fail
  refine (keepF17_is hl0.out F0.out Q2 HNL).mono ?_; rintro e w1 ⟨rfl, rfl⟩
  go_wp2
  go_ret
  exact ⟨rfl, B0.out⟩
theorem ignores17_no3 {p : Option Addr} {cp nx : Nat} {X : List AX} {a : Option Addr} {cap nl : Nat} {L : List F} {fn fv : ByteArray} {z : Int} {st : Bool} {w : World} (hx0 : Box (X.length ≤ maxLen)) (hX : Box (Axs w p X ∧ ∀ i (hi : i < X.length), X[i].2.length ≤ maxLen)) (hl0 : Box (L.length ≤ maxLen)) (hF : Box (Fs w a L)) (HNX : Box (X.length = nx)) (HNL : Box (L.length = nl)) (Q1 : Box (keepA X = true)) (Q2 : Box (keepF L = true)) (h1 : fn.size ≤ 100) (h2 : 100 < fv.size) :
    Calls Tryz.prog 8 #[.slice p nx cp, .slice a nl cap, .agg #[.string fn, .string fv], .int .i64 z, .bool st] w fun e w' => IgPost w e w' := by
  have B0 := box (below_new w (.cells #[.string fn, .string fv] 46))
  have C0 := box (C2.new (.string fn) (.string fv) w 46)
  obtain ⟨w0, hw0⟩ : ∃ w0, w.alloc (.cells #[.string fn, .string fv] 46) = w0 := ⟨_, rfl⟩
  have HW0 := box hw0
  rw [hw0] at B0 C0
  have X0 : Box (Axs w0 p X ∧ ∀ i (hi : i < X.length), X[i].2.length ≤ maxLen) := box ⟨hX.out.1.below B0.out, hX.out.2⟩
  have F0 := box (hF.out.below B0.out)
  have c00 := C0.out.1.1
  have c01 := C0.out.1.2
  have hf1 : ¬ (100 : Int) < (fn.size : Int) := by omega
  have hf2 : (100 : Int) < (fv.size : Int) := by omega
  clear hw0
  go_enter Tryz.func8, Tryz.ntmps8
  go_wp2_with fail
  rw [HW0.out]
  refine (keepA17_is hx0.out X0.out Q1 HNX).mono ?_; rintro e w1 ⟨rfl, rfl⟩
  go_wp2_with fail
  refine (keepF17_is hl0.out F0.out Q2 HNL).mono ?_; rintro e w1 ⟨rfl, rfl⟩
  go_wp2
  go_ret
  exact ⟨rfl, B0.out⟩
theorem ignores17_no4 {p : Option Addr} {cp nx : Nat} {X : List AX} {a : Option Addr} {cap nl : Nat} {L : List F} {fn fv : ByteArray} {z : Int} {st : Bool} {w : World} (hx0 : Box (X.length ≤ maxLen)) (hX : Box (Axs w p X ∧ ∀ i (hi : i < X.length), X[i].2.length ≤ maxLen)) (hl0 : Box (L.length ≤ maxLen)) (hF : Box (Fs w a L)) (HNX : Box (X.length = nx)) (HNL : Box (L.length = nl)) (Q1 : Box (keepA X = true)) (Q2 : Box (keepF L = true)) (h1 : fn.size ≤ 100) (h2 : fv.size ≤ 100) (h3 : z < 0) :
    Calls Tryz.prog 8 #[.slice p nx cp, .slice a nl cap, .agg #[.string fn, .string fv], .int .i64 z, .bool st] w fun e w' => IgPost w e w' := by
  have B0 := box (below_new w (.cells #[.string fn, .string fv] 46))
  have C0 := box (C2.new (.string fn) (.string fv) w 46)
  obtain ⟨w0, hw0⟩ : ∃ w0, w.alloc (.cells #[.string fn, .string fv] 46) = w0 := ⟨_, rfl⟩
  have HW0 := box hw0
  rw [hw0] at B0 C0
  have X0 : Box (Axs w0 p X ∧ ∀ i (hi : i < X.length), X[i].2.length ≤ maxLen) := box ⟨hX.out.1.below B0.out, hX.out.2⟩
  have F0 := box (hF.out.below B0.out)
  have c00 := C0.out.1.1
  have c01 := C0.out.1.2
  have hf1 : ¬ (100 : Int) < (fn.size : Int) := by omega
  have hf2 : ¬ (100 : Int) < (fv.size : Int) := by omega
  clear hw0
  go_enter Tryz.func8, Tryz.ntmps8
  go_wp2_with fail
  rw [HW0.out]
  refine (keepA17_is hx0.out X0.out Q1 HNX).mono ?_; rintro e w1 ⟨rfl, rfl⟩
  go_wp2_with fail
  refine (keepF17_is hl0.out F0.out Q2 HNL).mono ?_; rintro e w1 ⟨rfl, rfl⟩
  go_wp2
  go_ret
  exact ⟨rfl, B0.out⟩
theorem ignores17_no5 {p : Option Addr} {cp nx : Nat} {X : List AX} {a : Option Addr} {cap nl : Nat} {L : List F} {fn fv : ByteArray} {z : Int} {st : Bool} {w : World} (hx0 : Box (X.length ≤ maxLen)) (hX : Box (Axs w p X ∧ ∀ i (hi : i < X.length), X[i].2.length ≤ maxLen)) (hl0 : Box (L.length ≤ maxLen)) (hF : Box (Fs w a L)) (HNX : Box (X.length = nx)) (HNL : Box (L.length = nl)) (Q1 : Box (keepA X = true)) (Q2 : Box (keepF L = true)) (h1 : fn.size ≤ 100) (h2 : fv.size ≤ 100) (h3 : ¬ z < 0) (h4 : (nl : Int) < z) :
    Calls Tryz.prog 8 #[.slice p nx cp, .slice a nl cap, .agg #[.string fn, .string fv], .int .i64 z, .bool st] w fun e w' => IgPost w e w' := by
  have B0 := box (below_new w (.cells #[.string fn, .string fv] 46))
  have C0 := box (C2.new (.string fn) (.string fv) w 46)
  obtain ⟨w0, hw0⟩ : ∃ w0, w.alloc (.cells #[.string fn, .string fv] 46) = w0 := ⟨_, rfl⟩
  have HW0 := box hw0
  rw [hw0] at B0 C0
  have X0 : Box (Axs w0 p X ∧ ∀ i (hi : i < X.length), X[i].2.length ≤ maxLen) := box ⟨hX.out.1.below B0.out, hX.out.2⟩
  have F0 := box (hF.out.below B0.out)
  have c00 := C0.out.1.1
  have c01 := C0.out.1.2
  have hf1 : ¬ (100 : Int) < (fn.size : Int) := by omega
  have hf2 : ¬ (100 : Int) < (fv.size : Int) := by omega
  clear hw0
  go_enter Tryz.func8, Tryz.ntmps8
  go_wp2_with fail
  rw [HW0.out]
  refine (keepA17_is hx0.out X0.out Q1 HNX).mono ?_; rintro e w1 ⟨rfl, rfl⟩
  go_wp2_with fail
  refine (keepF17_is hl0.out F0.out Q2 HNL).mono ?_; rintro e w1 ⟨rfl, rfl⟩
  go_wp2
  go_ret
  exact ⟨rfl, B0.out⟩
set_option maxHeartbeats 8000000 in
theorem ignores17_in (p : Option Addr) (cp nx : Nat) (X : List AX) (a : Option Addr) (cap nl : Nat) (L : List F) (fn fv : ByteArray) (k : Nat) (st : Bool) (w : World) (hx0 : Box (X.length ≤ maxLen)) (hX : Box (Axs w p X ∧ ∀ i (hi : i < X.length), X[i].2.length ≤ maxLen)) (hl0 : Box (L.length ≤ maxLen)) (hF : Box (Fs w a L)) (hW : Wts w) (HNX : Box (X.length = nx)) (HNL : Box (L.length = nl)) (hcl : nl ≤ cap) (hcn : Box (a = none → cap = 0))
    (Q1 : Box (keepA X = true)) (Q2 : Box (keepF L = true)) (hfn : fn.size ≤ 100) (hfv : fv.size ≤ 100) (hk : k ≤ nl) :
    Calls Tryz.prog 8 #[.slice p nx cp, .slice a nl cap, .agg #[.string fn, .string fv], .int .i64 k, .bool st] w fun e w' => IgPost w e w' := by
  have HT := box hW
  have FX := box (fit_keepA Q1.out)
  have FL := box (fit_keepF Q2.out)
  have x6 : X.length ≤ 65536 := by have := (keep_fit Q1.out).1; omega
  have hl70 := (keep_parts Q2.out).1
  have l6 : L.length ≤ 65536 := by omega
  have C0 := box (C2.new (.string fn) (.string fv) w 46)
  have B0 := box (below_new w (.cells #[.string fn, .string fv] 46))
  obtain ⟨w0, hw0⟩ : ∃ w0, w.alloc (.cells #[.string fn, .string fv] 46) = w0 := ⟨_, rfl⟩
  have HW0 := box hw0
  rw [hw0] at C0 B0
  have hs0 := B0.out.size
  have X0 : Box (Axs w0 p X ∧ ∀ i (hi : i < X.length), X[i].2.length ≤ maxLen) := box ⟨hX.out.1.below B0.out, hX.out.2⟩
  have F0 := box (hF.out.below B0.out)
  have T0 := box (HT.out.below B0.out)
  have c00 := C0.out.1.1
  have c01 := C0.out.1.2
  have hki : ¬ (k : Int) < 0 := by omega
  have hkn : ¬ (nl : Int) < (k : Int) := by omega
  have hf1 : ¬ (100 : Int) < (fn.size : Int) := by omega
  have hf2 : ¬ (100 : Int) < (fv.size : Int) := by omega
  have hd1 : decide ((100 : Int) < (fn.size : Int)) = false := decide_eq_false hf1
  have hd2 : decide ((100 : Int) < (fv.size : Int)) = false := decide_eq_false hf2
  have hd3 : decide ((k : Int) < 0) = false := decide_eq_false hki
  have hd4 : decide ((nl : Int) < (k : Int)) = false := decide_eq_false hkn
  have hd5 : decide (nl < k) = false := decide_eq_false (by omega)
  have hnl70 : nl ≤ 70 := by have := HNL.out; omega
  have HFI := box (mid_fit (L := L) (f := (fn, fv)) (k := k) hl70 (keep_parts Q2.out).2 (by show fn.size ≤ 300; omega) (by show fv.size ≤ 300; omega))
  clear hW hw0 hl70
  go_enter Tryz.func8, Tryz.ntmps8
  go_wp2_with fail
  rw [HW0.out]
  refine (keepA17_is hx0.out X0.out Q1 HNX).mono ?_; rintro e w1 ⟨rfl, rfl⟩
  go_wp2_with fail
  refine (keepF17_is hl0.out F0.out Q2 HNL).mono ?_; rintro e w1 ⟨rfl, rfl⟩
  go_wp2
  go_loopw [11] (fun i wr => ImRel X fn w0 i wr) (fun i _ => nx - (intOf i).toNat)
  case atStart => exact ⟨0, rfl, Nat.zero_le _, by simp, box (Below.refl _ _)⟩
  case round =>
    obtain ⟨w2, rfl⟩ : ∃ w2, w2 = wr := ⟨_, rfl⟩
    obtain ⟨j, rfl, hj, hno, B2⟩ := hrel
    have HNO := box hno
    have hs2 := B2.out.size
    have C2' := box (C0.out.below B2.out C0.out.lt)
    have d00 := C2'.out.1.1
    have d01 := C2'.out.1.2
    clear hno c00 c01
    by_cases hlt : j < nx
    · have hji : (j : Int) < (nx : Int) := by omega
      have hj0 : (0 : Int) ≤ (j : Int) := by omega
      have hjX : j < X.length := by have := HNX.out; omega
      obtain ⟨g, off, v, rfl, c0, _⟩ := (X0.out.1.below B2.out) j hjX
      obtain ⟨z1, _, _⟩ := FX.out j hjX
      obtain ⟨n, hn⟩ : ∃ n, X[j].1 = n := ⟨_, rfl⟩
      rw [hn] at c0 z1
      have n4 : n.size ≤ 4294967296 := by omega
      have f4 : fn.size ≤ 4294967296 := by omega
      obtain ⟨q, hq⟩ : ∃ q, foldL n.data.toList fn.data.toList = q := ⟨_, rfl⟩
      have HQ := box hq
      cases q with
      | true =>
        clear hq hn
        go_wp2
        refine wp_region_held_drew (S := (fun w' : World => (w'.cell? ⟨g, off + j * 2, none⟩ = some (.string n) ∧ w'.cell? ⟨w.heap.size, 0, none⟩ = some (.string fn)) ∧ Box (Below w0.heap.size w0 w' ∧ Below w2.heap.size w2 w'))) (by kernel_rfl) ⟨⟨c0, d00⟩, box ⟨B2.out.drew, (Below.refl _ _).drew⟩⟩ (fun hHeld => ?_)
        refine wpAnyH_take (i := 0) (oi := { dst := some 49, op := Op.move (Operand.tmp 0), type := 27, pos := "law.go:114", after := #[], guard := none }) (v := ?v0q1) rfl (by kernel_rfl) (by kernel_rfl) (by kernel_rfl) (fun _ _ _ h => h) (Or.inl ⟨by rfl, ?y0q1⟩) (by assumption) ?r0q1
        case y0q1 => (intro w hSw; (try dsimp only at hSw); go_simp; first | done | with_reducible rfl)
        try simp only [Act.put, List.setIfInBounds_toArray, List.set_cons_zero, List.set_cons_succ]
        refine wpAnyH_take (i := 1) (oi := { dst := some 50, op := Op.move (Operand.tmp 11), type := 3, pos := "law.go:114", after := #[], guard := none }) (v := ?v1q1) rfl (by kernel_rfl) (by kernel_rfl) (by kernel_rfl) (fun _ _ _ h => h) (Or.inl ⟨by rfl, ?y1q1⟩) (by assumption) ?r1q1
        case y1q1 => (intro w hSw; (try dsimp only at hSw); go_simp; first | done | with_reducible rfl)
        try simp only [Act.put, List.setIfInBounds_toArray, List.set_cons_zero, List.set_cons_succ]
        refine wpAnyH_take (i := 2) (oi := { dst := some 51, op := Op.indexAddr 27 (Operand.tmp 49) (Operand.tmp 50), type := 0, pos := "law.go:114", after := #[{ on := 0, ground := Ground.data }, { on := 1, ground := Ground.data }], guard := none }) (v := ?v2q1) rfl (by kernel_rfl) (by kernel_rfl) (by kernel_rfl) (fun _ _ _ h => h) (Or.inl ⟨by rfl, ?y2q1⟩) (by assumption) ?r2q1
        case y2q1 => (intro w hSw; (try dsimp only at hSw); go_simp; first | done | with_reducible rfl)
        try simp only [Act.put, List.setIfInBounds_toArray, List.set_cons_zero, List.set_cons_succ]
        refine wpAnyH_take (i := 3) (oi := { dst := some 52, op := Op.fieldAddr 24 (Operand.tmp 51) 0, type := 0, pos := "law.go:114", after := #[{ on := 2, ground := Ground.data }], guard := none }) (v := ?v3q1) rfl (by kernel_rfl) (by kernel_rfl) (by kernel_rfl) (fun _ _ _ h => h) (Or.inl ⟨by rfl, ?y3q1⟩) (by assumption) ?r3q1
        case y3q1 => (intro w hSw; (try dsimp only at hSw); go_simp; first | done | with_reducible rfl)
        try simp only [Act.put, List.setIfInBounds_toArray, List.set_cons_zero, List.set_cons_succ]
        refine wpAnyH_take (i := 4) (oi := { dst := some 53, op := Op.load 9 (Operand.tmp 52), type := 9, pos := "law.go:114", after := #[{ on := 3, ground := Ground.data }], guard := none }) (v := ?v4q1) rfl (by kernel_rfl) (by kernel_rfl) (by kernel_rfl) (fun _ _ _ h => h) (Or.inl ⟨by rfl, ?y4q1⟩) (by assumption) ?r4q1
        case y4q1 => (intro w hSw; (try dsimp only at hSw); go_simp; first | done | with_reducible rfl)
        try simp only [Act.put, List.setIfInBounds_toArray, List.set_cons_zero, List.set_cons_succ]
        refine wpAnyH_take (i := 5) (oi := { dst := some 54, op := Op.fieldAddr 46 (Operand.tmp 7) 0, type := 0, pos := "law.go:114", after := #[], guard := none }) (v := ?v5q1) rfl (by kernel_rfl) (by kernel_rfl) (by kernel_rfl) (fun _ _ _ h => h) (Or.inl ⟨by rfl, ?y5q1⟩) (by assumption) ?r5q1
        case y5q1 => (intro w hSw; (try dsimp only at hSw); go_simp; first | done | with_reducible rfl)
        try simp only [Act.put, List.setIfInBounds_toArray, List.set_cons_zero, List.set_cons_succ]
        refine wpAnyH_take (i := 6) (oi := { dst := some 55, op := Op.load 9 (Operand.tmp 54), type := 9, pos := "law.go:114", after := #[{ on := 5, ground := Ground.data }], guard := none }) (v := ?v6q1) rfl (by kernel_rfl) (by kernel_rfl) (by kernel_rfl) (fun _ _ _ h => h) (Or.inl ⟨by rfl, ?y6q1⟩) (by assumption) ?r6q1
        case y6q1 => (intro w hSw; (try dsimp only at hSw); go_simp; first | done | with_reducible rfl)
        try simp only [Act.put, List.setIfInBounds_toArray, List.set_cons_zero, List.set_cons_succ]
        refine wpAnyH_ready (rs := [7]) (by kernel_rfl) (by simp) ?_
        refine AllReadyH.cons (o := { dst := some 56, op := Op.call { callee := Callee.value (Operand.func 24), args := #[Operand.tmp 53, Operand.tmp 55], argTypes := #[9, 9] }, type := 4, pos := "law.go:114", after := #[{ on := 4, ground := Ground.data }, { on := 6, ground := Ground.data }], guard := none }) rfl (fun K hK => ?_) AllReadyH.nil
        go_simp
        refine (rFold13_is n4 f4 HQ).mono ?_; rintro e w3 ⟨rfl, hb3⟩
        have B3 := box (hHeld.2.out.1.trans (hb3.mono hHeld.2.out.1.size))
        have BL3 := box (hHeld.2.out.2.trans (hb3.mono hHeld.2.out.2.size))
        clear hb3
        go_wp2_with fail
        refine hK.out _ _ ⟨⟨(BL3.out.cell (cell_lt c0)).trans c0, (BL3.out.cell (cell_lt d00)).trans d00⟩, box ⟨B3.out, BL3.out⟩⟩ (fun hHeld => ?_)
        clear hK K
        try simp only [Act.put, List.setIfInBounds_toArray, List.set_cons_zero, List.set_cons_succ]
        refine wpAnyH_done (by kernel_rfl) ?_ _
        go_wp2
        go_ret
        exact ⟨rfl, B0.out.trans (B3.out.mono hs0)⟩
      | false =>
        have HN2 : Box (∀ x ∈ X.take (j + 1), foldL x.1.data.toList fn.data.toList = false) := box (fun x hx => by
          rw [List.take_succ_eq_append_getElem hjX] at hx
          rcases List.mem_append.1 hx with h | h
          · exact HNO.out x h
          · rw [List.mem_singleton.1 h, hn]; exact hq)
        clear hq hn
        go_wp2
        refine wp_region_held_drew (S := (fun w' : World => (w'.cell? ⟨g, off + j * 2, none⟩ = some (.string n) ∧ w'.cell? ⟨w.heap.size, 0, none⟩ = some (.string fn)) ∧ Box (Below w0.heap.size w0 w' ∧ Below w2.heap.size w2 w'))) (by kernel_rfl) ⟨⟨c0, d00⟩, box ⟨B2.out.drew, (Below.refl _ _).drew⟩⟩ (fun hHeld => ?_)
        refine wpAnyH_take (i := 0) (oi := { dst := some 49, op := Op.move (Operand.tmp 0), type := 27, pos := "law.go:114", after := #[], guard := none }) (v := ?v0q2) rfl (by kernel_rfl) (by kernel_rfl) (by kernel_rfl) (fun _ _ _ h => h) (Or.inl ⟨by rfl, ?y0q2⟩) (by assumption) ?r0q2
        case y0q2 => (intro w hSw; (try dsimp only at hSw); go_simp; first | done | with_reducible rfl)
        try simp only [Act.put, List.setIfInBounds_toArray, List.set_cons_zero, List.set_cons_succ]
        refine wpAnyH_take (i := 1) (oi := { dst := some 50, op := Op.move (Operand.tmp 11), type := 3, pos := "law.go:114", after := #[], guard := none }) (v := ?v1q2) rfl (by kernel_rfl) (by kernel_rfl) (by kernel_rfl) (fun _ _ _ h => h) (Or.inl ⟨by rfl, ?y1q2⟩) (by assumption) ?r1q2
        case y1q2 => (intro w hSw; (try dsimp only at hSw); go_simp; first | done | with_reducible rfl)
        try simp only [Act.put, List.setIfInBounds_toArray, List.set_cons_zero, List.set_cons_succ]
        refine wpAnyH_take (i := 2) (oi := { dst := some 51, op := Op.indexAddr 27 (Operand.tmp 49) (Operand.tmp 50), type := 0, pos := "law.go:114", after := #[{ on := 0, ground := Ground.data }, { on := 1, ground := Ground.data }], guard := none }) (v := ?v2q2) rfl (by kernel_rfl) (by kernel_rfl) (by kernel_rfl) (fun _ _ _ h => h) (Or.inl ⟨by rfl, ?y2q2⟩) (by assumption) ?r2q2
        case y2q2 => (intro w hSw; (try dsimp only at hSw); go_simp; first | done | with_reducible rfl)
        try simp only [Act.put, List.setIfInBounds_toArray, List.set_cons_zero, List.set_cons_succ]
        refine wpAnyH_take (i := 3) (oi := { dst := some 52, op := Op.fieldAddr 24 (Operand.tmp 51) 0, type := 0, pos := "law.go:114", after := #[{ on := 2, ground := Ground.data }], guard := none }) (v := ?v3q2) rfl (by kernel_rfl) (by kernel_rfl) (by kernel_rfl) (fun _ _ _ h => h) (Or.inl ⟨by rfl, ?y3q2⟩) (by assumption) ?r3q2
        case y3q2 => (intro w hSw; (try dsimp only at hSw); go_simp; first | done | with_reducible rfl)
        try simp only [Act.put, List.setIfInBounds_toArray, List.set_cons_zero, List.set_cons_succ]
        refine wpAnyH_take (i := 4) (oi := { dst := some 53, op := Op.load 9 (Operand.tmp 52), type := 9, pos := "law.go:114", after := #[{ on := 3, ground := Ground.data }], guard := none }) (v := ?v4q2) rfl (by kernel_rfl) (by kernel_rfl) (by kernel_rfl) (fun _ _ _ h => h) (Or.inl ⟨by rfl, ?y4q2⟩) (by assumption) ?r4q2
        case y4q2 => (intro w hSw; (try dsimp only at hSw); go_simp; first | done | with_reducible rfl)
        try simp only [Act.put, List.setIfInBounds_toArray, List.set_cons_zero, List.set_cons_succ]
        refine wpAnyH_take (i := 5) (oi := { dst := some 54, op := Op.fieldAddr 46 (Operand.tmp 7) 0, type := 0, pos := "law.go:114", after := #[], guard := none }) (v := ?v5q2) rfl (by kernel_rfl) (by kernel_rfl) (by kernel_rfl) (fun _ _ _ h => h) (Or.inl ⟨by rfl, ?y5q2⟩) (by assumption) ?r5q2
        case y5q2 => (intro w hSw; (try dsimp only at hSw); go_simp; first | done | with_reducible rfl)
        try simp only [Act.put, List.setIfInBounds_toArray, List.set_cons_zero, List.set_cons_succ]
        refine wpAnyH_take (i := 6) (oi := { dst := some 55, op := Op.load 9 (Operand.tmp 54), type := 9, pos := "law.go:114", after := #[{ on := 5, ground := Ground.data }], guard := none }) (v := ?v6q2) rfl (by kernel_rfl) (by kernel_rfl) (by kernel_rfl) (fun _ _ _ h => h) (Or.inl ⟨by rfl, ?y6q2⟩) (by assumption) ?r6q2
        case y6q2 => (intro w hSw; (try dsimp only at hSw); go_simp; first | done | with_reducible rfl)
        try simp only [Act.put, List.setIfInBounds_toArray, List.set_cons_zero, List.set_cons_succ]
        refine wpAnyH_ready (rs := [7]) (by kernel_rfl) (by simp) ?_
        refine AllReadyH.cons (o := { dst := some 56, op := Op.call { callee := Callee.value (Operand.func 24), args := #[Operand.tmp 53, Operand.tmp 55], argTypes := #[9, 9] }, type := 4, pos := "law.go:114", after := #[{ on := 4, ground := Ground.data }, { on := 6, ground := Ground.data }], guard := none }) rfl (fun K hK => ?_) AllReadyH.nil
        go_simp
        refine (rFold13_is n4 f4 HQ).mono ?_; rintro e w3 ⟨rfl, hb3⟩
        have B3 := box (hHeld.2.out.1.trans (hb3.mono hHeld.2.out.1.size))
        have BL3 := box (hHeld.2.out.2.trans (hb3.mono hHeld.2.out.2.size))
        clear hb3
        go_wp2_with fail
        refine hK.out _ _ ⟨⟨(BL3.out.cell (cell_lt c0)).trans c0, (BL3.out.cell (cell_lt d00)).trans d00⟩, box ⟨B3.out, BL3.out⟩⟩ (fun hHeld => ?_)
        clear hK K
        try simp only [Act.put, List.setIfInBounds_toArray, List.set_cons_zero, List.set_cons_succ]
        refine wpAnyH_done (by kernel_rfl) ?_ _
        clear hHeld
        go_wp2
        go_roundw
        case rel => exact ⟨j + 1, by go_num, by omega, HN2.out, B3⟩
        case measure => simp [intOf]; omega
    · have hji : ¬ (j : Int) < (nx : Int) := by omega
      have HNA : Box (∀ x ∈ X, foldL x.1.data.toList fn.data.toList = false) := box (fun x hx => HNO.out x (by rw [List.take_of_length_le (by have := HNX.out; omega)]; exact hx))
      have HKM : Box (keysS X (midF L (fn, fv) k) st = keysS X L st) := box (keys_mid HNA.out)
      obtain ⟨K, hK⟩ : ∃ K, keysS X L st = K := ⟨_, rfl⟩
      have HK := box hK
      have HK2 : Box (keysS X (midF L (fn, fv) k) st = K) := box (HKM.out.trans hK)
      obtain ⟨k1, k2, k3⟩ := keys_small17 (L := L) (st := st) FX.out
      rw [hK] at k1 k2 k3
      have k6 : K.length ≤ 65536 := by omega
      have ZK := box k1
      have F2 := box (F0.out.below B2.out)
      have B2s := box (B0.out.trans (B2.out.mono hs0))
      have hsw := B2s.out.size
      obtain ⟨m, rfl⟩ : ∃ m, nl = k + m := ⟨nl - k, by omega⟩
      have hk6 : k ≤ 65536 := by omega
      have HTL : Box ((L.take k).length = k) := box (by rw [List.length_take, HNL.out]; omega)
      have HTL6 : (L.take k).length ≤ 65536 := by rw [HTL.out]; exact hk6
      have HDL : Box ((L.drop k).length = m) := box (by rw [List.length_drop, HNL.out]; omega)
      have HMD : Box ((L.take k ++ [(fn, fv)]) ++ L.drop k = midF L (fn, fv) k) := box (by unfold midF; rw [List.append_assoc]; rfl)
      have HMD2 : Box (L.take k ++ (fn, fv) :: L.drop k = midF L (fn, fv) k) := box rfl
      have hkc : (k : Int) ≤ (cap : Int) := by omega
      have hk00 : (0 : Int) ≤ (k : Int) := by omega
      have BS0 := box ((Below.refl w2.heap.size w2).drew)
      clear hK k1 k2 k3
      go_wp2
      refine wp_region_held_drew (S := fun w' : World => (w'.cell? ⟨w.heap.size, 0, none⟩ = some (.string fn) ∧ w'.cell? ⟨w.heap.size, 1, none⟩ = some (.string fv)) ∧ Box (Below w2.heap.size w2 w')) (by kernel_rfl) ⟨⟨d00, d01⟩, box BS0.out⟩ (fun hHeld => ?_)
      refine wpAnyH_take (i := 0) (oi := { dst := some 57, op := Op.move (Operand.tmp 1), type := 25, pos := "law.go:118", after := #[], guard := none }) (v := ?v0z) rfl (by kernel_rfl) (by kernel_rfl) (by kernel_rfl) (fun _ _ _ h => h) (Or.inl ⟨by rfl, ?y0z⟩) (by assumption) ?r0z
      case y0z => (intro w hSw; (try dsimp only at hSw); go_simp; first | done | with_reducible rfl)
      try simp only [Act.put, List.setIfInBounds_toArray, List.set_cons_zero, List.set_cons_succ]
      refine wpAnyH_take (i := 1) (oi := { dst := some 58, op := Op.move (Operand.tmp 3), type := 3, pos := "law.go:118", after := #[], guard := none }) (v := ?v1z) rfl (by kernel_rfl) (by kernel_rfl) (by kernel_rfl) (fun _ _ _ h => h) (Or.inl ⟨by rfl, ?y1z⟩) (by assumption) ?r1z
      case y1z => (intro w hSw; (try dsimp only at hSw); go_simp; first | done | with_reducible rfl)
      try simp only [Act.put, List.setIfInBounds_toArray, List.set_cons_zero, List.set_cons_succ]
      refine wpAnyH_take (i := 2) (oi := { dst := some 59, op := Op.slice 25 (Operand.tmp 57) none (some (Operand.tmp 58)) none, type := 25, pos := "law.go:118", after := #[{ on := 0, ground := Ground.data }, { on := 1, ground := Ground.data }], guard := none }) (v := ?v2z) rfl (by kernel_rfl) (by kernel_rfl) (by kernel_rfl) (fun _ _ _ h => h) (Or.inl ⟨by rfl, ?y2z⟩) (by assumption) ?r2z
      case y2z => (intro w hSw; (try dsimp only at hSw); go_simp; first | done | with_reducible rfl)
      try simp only [Act.put, List.setIfInBounds_toArray, List.set_cons_zero, List.set_cons_succ]
      refine wpAnyH_take (i := 4) (oi := { dst := some 61, op := Op.load 46 (Operand.tmp 7), type := 46, pos := "law.go:118", after := #[], guard := none }) (v := ?v4z) rfl (by kernel_rfl) (by kernel_rfl) (by kernel_rfl) (fun _ _ _ h => h) (Or.inl ⟨by rfl, ?y4z⟩) (by assumption) ?r4z
      case y4z => (intro w hSw; (try dsimp only at hSw); go_simp; first | done | with_reducible rfl)
      try simp only [Act.put, List.setIfInBounds_toArray, List.set_cons_zero, List.set_cons_succ]
      refine wpAnyH_ready (rs := [3, 5]) (by kernel_rfl) (by simp) ?_
      refine AllReadyH.cons (o := { dst := some 60, op := Op.call { callee := Callee.builtin Builtin.append, args := #[Operand.const (Value.slice none 0 0), Operand.tmp 59], argTypes := #[25, 25] }, type := 25, pos := "law.go:118", after := #[{ on := 2, ground := Ground.data }], guard := none }) rfl (fun K hK => ?_) (AllReadyH.cons (o := { dst := some 62, op := Op.buildSlice 25 1 #[(0, Operand.tmp 61)], type := 25, pos := "law.go:118", after := #[{ on := 4, ground := Ground.data }], guard := none }) rfl (fun K hK => ?_) AllReadyH.nil)
      · refine step_append_flds _ rfl (.const (.slice none 0 0)) (.tmp 59) rfl w2.heap.size (.slice none 0 0) [] (L.take k) rfl (OwnF.nil _ _) a k cap rfl HTL.out hcn.out ((F2.out.take17 k).below BS0.out) (by simp) HTL6 BS0.out.size ?_
        intro v6 w6 hO6 hb6
        rw [List.nil_append] at hO6
        have BS1 := box (BS0.out.trans hb6)
        refine hK.out _ _ ⟨⟨(BS1.out.cell (cell_lt d00)).trans d00, (BS1.out.cell (cell_lt d01)).trans d01⟩, box BS1.out⟩ (fun hHeld => ?_)
        clear hK K
        try simp only [Act.put, List.setIfInBounds_toArray, List.set_cons_zero, List.set_cons_succ]
        refine wpAnyH_ready (rs := [5]) (by kernel_rfl) (by simp) ?_
        refine AllReadyH.cons (o := { dst := some 62, op := Op.buildSlice 25 1 #[(0, Operand.tmp 61)], type := 25, pos := "law.go:118", after := #[{ on := 4, ground := Ground.data }], guard := none }) rfl (fun K hK => ?_) AllReadyH.nil
        go_simp
        have BS2 := box (BS1.out.alloc BS1.out.size (.cells #[.string fn, .string fv] 46))
        go_wp2_with fail
        refine hK.out _ _ ⟨⟨(BS2.out.cell (cell_lt d00)).trans d00, (BS2.out.cell (cell_lt d01)).trans d01⟩, box BS2.out⟩ (fun hHeld => ?_)
        clear hK K
        try simp only [Act.put, List.setIfInBounds_toArray, List.set_cons_zero, List.set_cons_succ]
        refine wpAnyH_ready (rs := [6]) (by kernel_rfl) (by simp) ?_
        refine AllReadyH.cons (o := { dst := some 63, op := Op.call { callee := Callee.builtin Builtin.append, args := #[Operand.tmp 60, Operand.tmp 62], argTypes := #[25, 25] }, type := 25, pos := "law.go:118", after := #[{ on := 3, ground := Ground.data }, { on := 5, ground := Ground.data }, { on := 3, ground := Ground.chain }], guard := none }) rfl (fun K hK => ?_) AllReadyH.nil
        refine step_append_fld _ rfl (.tmp 60) (.tmp 62) rfl w2.heap.size v6 (L.take k) rfl ?a11A _ _ rfl fn fv ?b11A ?e11A HTL6 ?d11A ?_
        case a11A => exact own_below hO6 (below_new _ _)
        case b11A => exact (World.cell?_alloc_at (w := w6) #[.string fn, .string fv] 46 w6.heap.size 0 rfl).trans rfl
        case e11A => exact (World.cell?_alloc_at (w := w6) #[.string fn, .string fv] 46 w6.heap.size 1 rfl).trans rfl
        case d11A => exact BS2.out.size
        intro v7 w7 hO7 hb7
        have BS3 := box (BS2.out.trans hb7)
        have O7 := box (show OwnF w7 w2.heap.size v7 _ from hO7)
        refine hK.out _ _ ⟨⟨(BS3.out.cell (cell_lt d00)).trans d00, (BS3.out.cell (cell_lt d01)).trans d01⟩, box BS3.out⟩ (fun hHeld => ?_)
        clear hK K
        try simp only [Act.put, List.setIfInBounds_toArray, List.set_cons_zero, List.set_cons_succ]
        refine wpAnyH_take (i := 7) (oi := { dst := some 12, op := Op.assign (Operand.tmp 63), type := 25, pos := "law.go:118", after := #[{ on := 6, ground := Ground.data }, { on := 6, ground := Ground.chain }, { on := 0, ground := Ground.phase }, { on := 1, ground := Ground.phase }, { on := 2, ground := Ground.phase }, { on := 3, ground := Ground.phase }, { on := 4, ground := Ground.phase }, { on := 5, ground := Ground.phase }, { on := 6, ground := Ground.phase }], guard := none }) (v := ?v7zA) rfl (by kernel_rfl) (by kernel_rfl) (by kernel_rfl) (fun _ _ _ h => h) (Or.inl ⟨by rfl, ?y7zA⟩) (by assumption) ?r7zA
        case y7zA => (intro w hSw; (try dsimp only at hSw); go_simp; first | done | with_reducible rfl)
        try simp only [Act.put, List.setIfInBounds_toArray, List.set_cons_zero, List.set_cons_succ]
        refine wpAnyH_done (by kernel_rfl) ?_ _
        clear hO7 hb7 hb6 hO6 hHeld BS0 BS1 BS2
        rcases a with _ | ad
        · have hsub : cap - k = 0 := by have := hcn.out rfl; omega
          have hm0z : m = 0 := by have := hcn.out rfl; omega
          have HDZ : Box ((L.drop k).length = 0) := box (HDL.out.trans hm0z)
          have HD0 : Box (L.drop k = []) := box (List.length_eq_zero_iff.1 (HDL.out.trans hm0z))
          have FD0 : Box (Fs w7 none (L.drop k)) := box (by rw [HD0.out]; exact Fs.nil17 _ _)
          clear hm0z
          go_wp2_with (at_builtin; refine wpList_append_flds17 _ rfl (.tmp 64) (.tmp 67) rfl w2.heap.size v7 (L.take k ++ [(fn, fv)]) (L.drop k) rfl O7.out none m 0 rfl HDL.out (fun _ => rfl) FD0.out ?lzA ?mzA BS3.out.size ?_)
          case lzA => first | omega | (rw [List.length_append, HTL.out]; simp; omega)
          case mzA => first | omega | (rw [HDL.out]; omega)
          intro v8 w8 hO8 hb8
          first | rw [HMD.out] at hO8 | rw [HMD2.out] at hO8
          have B8 := box (B2.out.trans ((BS3.out.trans hb8).mono hs2))
          obtain ⟨a8, c8, rfl, hM8, _⟩ := hO8.fs
          obtain ⟨nm, hnm⟩ : ∃ nm, (midF L (fn, fv) k).length = nm := ⟨_, rfl⟩
          have HML := box hnm
          rw [hnm]
          clear hO8 hb8 hnm
          have BT := box (B0.out.trans (B8.out.mono hs0))
          have M8 := box hM8
          have hm6 := HFI.out.2
          go_wp2_with fail
          refine (mKeys17_is x6 FX FL l6 (hX.out.1.below BT.out) (hF.out.below BT.out) (HT.out.below BT.out) HK HNX HNL).mono ?_; rintro e w9 ⟨v9, rfl, hO9, hb9⟩
          obtain ⟨a9, c9, rfl, hS9, _⟩ := hO9.kss
          have B9 := box (BT.out.trans (hb9.mono BT.out.size))
          have S9 := box hS9
          have M9 := box (M8.out.below hb9)
          clear hO9 hb9 hS9
          go_wp2_with fail
          refine (mKeys17_is x6 FX (box HFI.out.1) hm6 (hX.out.1.below B9.out) M9.out (HT.out.below B9.out) HK2 HNX HML).mono ?_; rintro e w10 ⟨v10, rfl, hO10, hb10⟩
          obtain ⟨a10, c10, rfl, hS10, _⟩ := hO10.kss
          have B10 := box (B9.out.trans (hb10.mono B9.out.size))
          have S10 := box hS10
          have S9b := box (S9.out.below hb10)
          clear hO10 hb10 hS10
          go_wp2_with fail
          refine (rSameKeys_is (q := true) k6 k6 ZK ZK S9b.out S10.out (box (decide_eq_true rfl))).mono ?_; rintro e w11 ⟨rfl, hb11⟩
          have B11 := box (B10.out.trans (hb11.mono B10.out.size))
          clear hb11
          go_wp2_with fail
          refine (awake17_any _ (HT.out.below B11.out)).mono ?_; rintro e w12 ⟨rfl, hb12⟩
          have B12 := box (B11.out.trans (hb12.mono B11.out.size))
          clear hb12
          go_wp2
          go_ret
          exact ⟨rfl, B12.out⟩
        · by_cases hkcap : k = cap
          · have hsub : cap - k = 0 := by omega
            have hck : (cap = k) = True := eq_true (by omega)
            have hm0z : m = 0 := by omega
            clear hkcap
            have HDZ : Box ((L.drop k).length = 0) := box (HDL.out.trans hm0z)
            have HD0 : Box (L.drop k = []) := box (List.length_eq_zero_iff.1 (HDL.out.trans hm0z))
            have FD0 : Box (Fs w7 (some ad) (L.drop k)) := box (by rw [HD0.out]; exact Fs.nil17 _ _)
            clear hm0z
            go_wp2_with (at_builtin; refine wpList_append_flds17 _ rfl (.tmp 64) (.tmp 67) rfl w2.heap.size v7 (L.take k ++ [(fn, fv)]) (L.drop k) rfl O7.out (some ad) m 0 rfl HDL.out (fun h => by cases h) FD0.out ?lyA ?myA BS3.out.size ?_)
            case lyA => first | omega | (rw [List.length_append, HTL.out]; simp; omega)
            case myA => first | omega | (rw [HDL.out]; omega)
            intro v8 w8 hO8 hb8
            first | rw [HMD.out] at hO8 | rw [HMD2.out] at hO8
            have B8 := box (B2.out.trans ((BS3.out.trans hb8).mono hs2))
            obtain ⟨a8, c8, rfl, hM8, _⟩ := hO8.fs
            obtain ⟨nm, hnm⟩ : ∃ nm, (midF L (fn, fv) k).length = nm := ⟨_, rfl⟩
            have HML := box hnm
            rw [hnm]
            clear hO8 hb8 hnm
            have BT := box (B0.out.trans (B8.out.mono hs0))
            have M8 := box hM8
            have hm6 := HFI.out.2
            go_wp2_with fail
            refine (mKeys17_is x6 FX FL l6 (hX.out.1.below BT.out) (hF.out.below BT.out) (HT.out.below BT.out) HK HNX HNL).mono ?_; rintro e w9 ⟨v9, rfl, hO9, hb9⟩
            obtain ⟨a9, c9, rfl, hS9, _⟩ := hO9.kss
            have B9 := box (BT.out.trans (hb9.mono BT.out.size))
            have S9 := box hS9
            have M9 := box (M8.out.below hb9)
            clear hO9 hb9 hS9
            go_wp2_with fail
            refine (mKeys17_is x6 FX (box HFI.out.1) hm6 (hX.out.1.below B9.out) M9.out (HT.out.below B9.out) HK2 HNX HML).mono ?_; rintro e w10 ⟨v10, rfl, hO10, hb10⟩
            obtain ⟨a10, c10, rfl, hS10, _⟩ := hO10.kss
            have B10 := box (B9.out.trans (hb10.mono B9.out.size))
            have S10 := box hS10
            have S9b := box (S9.out.below hb10)
            clear hO10 hb10 hS10
            go_wp2_with fail
            refine (rSameKeys_is (q := true) k6 k6 ZK ZK S9b.out S10.out (box (decide_eq_true rfl))).mono ?_; rintro e w11 ⟨rfl, hb11⟩
            have B11 := box (B10.out.trans (hb11.mono B10.out.size))
            clear hb11
            go_wp2_with fail
            refine (awake17_any _ (HT.out.below B11.out)).mono ?_; rintro e w12 ⟨rfl, hb12⟩
            have B12 := box (B11.out.trans (hb12.mono B11.out.size))
            clear hb12
            go_wp2
            go_ret
            exact ⟨rfl, B12.out⟩
          · have hkc2 : (k : Int) < (cap : Int) := by omega
            have hck : (cap = k) = False := eq_false (by omega)
            go_wp2_with (at_builtin; refine wpList_append_flds17 _ rfl (.tmp 64) (.tmp 67) rfl w2.heap.size v7 (L.take k ++ [(fn, fv)]) (L.drop k) rfl O7.out (some (ad.add (k * 2))) m (cap - k) rfl HDL.out (fun h => by cases h) ((F2.out.drop17 k).below BS3.out) ?lxA ?mxA BS3.out.size ?_)
            case lxA => first | omega | (rw [List.length_append, HTL.out]; simp; omega)
            case mxA => first | omega | (rw [HDL.out]; omega)
            intro v8 w8 hO8 hb8
            first | rw [HMD.out] at hO8 | rw [HMD2.out] at hO8
            have B8 := box (B2.out.trans ((BS3.out.trans hb8).mono hs2))
            obtain ⟨a8, c8, rfl, hM8, _⟩ := hO8.fs
            obtain ⟨nm, hnm⟩ : ∃ nm, (midF L (fn, fv) k).length = nm := ⟨_, rfl⟩
            have HML := box hnm
            rw [hnm]
            clear hO8 hb8 hnm
            have BT := box (B0.out.trans (B8.out.mono hs0))
            have M8 := box hM8
            have hm6 := HFI.out.2
            go_wp2_with fail
            refine (mKeys17_is x6 FX FL l6 (hX.out.1.below BT.out) (hF.out.below BT.out) (HT.out.below BT.out) HK HNX HNL).mono ?_; rintro e w9 ⟨v9, rfl, hO9, hb9⟩
            obtain ⟨a9, c9, rfl, hS9, _⟩ := hO9.kss
            have B9 := box (BT.out.trans (hb9.mono BT.out.size))
            have S9 := box hS9
            have M9 := box (M8.out.below hb9)
            clear hO9 hb9 hS9
            go_wp2_with fail
            refine (mKeys17_is x6 FX (box HFI.out.1) hm6 (hX.out.1.below B9.out) M9.out (HT.out.below B9.out) HK2 HNX HML).mono ?_; rintro e w10 ⟨v10, rfl, hO10, hb10⟩
            obtain ⟨a10, c10, rfl, hS10, _⟩ := hO10.kss
            have B10 := box (B9.out.trans (hb10.mono B9.out.size))
            have S10 := box hS10
            have S9b := box (S9.out.below hb10)
            clear hO10 hb10 hS10
            go_wp2_with fail
            refine (rSameKeys_is (q := true) k6 k6 ZK ZK S9b.out S10.out (box (decide_eq_true rfl))).mono ?_; rintro e w11 ⟨rfl, hb11⟩
            have B11 := box (B10.out.trans (hb11.mono B10.out.size))
            clear hb11
            go_wp2_with fail
            refine (awake17_any _ (HT.out.below B11.out)).mono ?_; rintro e w12 ⟨rfl, hb12⟩
            have B12 := box (B11.out.trans (hb12.mono B11.out.size))
            clear hb12
            go_wp2
            go_ret
            exact ⟨rfl, B12.out⟩
      · go_simp
        have BS1 := box (BS0.out.alloc BS0.out.size (.cells #[.string fn, .string fv] 46))
        go_wp2_with fail
        refine hK.out _ _ ⟨⟨(BS1.out.cell (cell_lt d00)).trans d00, (BS1.out.cell (cell_lt d01)).trans d01⟩, box BS1.out⟩ (fun hHeld => ?_)
        clear hK K
        try simp only [Act.put, List.setIfInBounds_toArray, List.set_cons_zero, List.set_cons_succ]
        have c62 : (w2.drew.alloc (.cells #[.string fn, .string fv] 46)).cell? ⟨w2.drew.heap.size, 0, none⟩ = some (.string fn) := (World.cell?_alloc_at (w := w2.drew) #[.string fn, .string fv] 46 w2.drew.heap.size 0 rfl).trans rfl
        have d62 : (w2.drew.alloc (.cells #[.string fn, .string fv] 46)).cell? ⟨w2.drew.heap.size, 1, none⟩ = some (.string fv) := (World.cell?_alloc_at (w := w2.drew) #[.string fn, .string fv] 46 w2.drew.heap.size 1 rfl).trans rfl
        refine wpAnyH_ready (rs := [3]) (by kernel_rfl) (by simp) ?_
        refine AllReadyH.cons (o := { dst := some 60, op := Op.call { callee := Callee.builtin Builtin.append, args := #[Operand.const (Value.slice none 0 0), Operand.tmp 59], argTypes := #[25, 25] }, type := 25, pos := "law.go:118", after := #[{ on := 2, ground := Ground.data }], guard := none }) rfl (fun K hK => ?_) AllReadyH.nil
        refine step_append_flds _ rfl (.const (.slice none 0 0)) (.tmp 59) rfl (w2.drew.alloc (.cells #[.string fn, .string fv] 46)).heap.size (.slice none 0 0) [] (L.take k) rfl (OwnF.nil _ _) a k cap rfl HTL.out hcn.out ((F2.out.take17 k).below BS1.out) (by simp) HTL6 (Nat.le_refl _) ?_
        intro v6 w6 hO6 hb6
        rw [List.nil_append] at hO6
        have BS2 := box (BS1.out.trans (hb6.mono BS1.out.size))
        refine hK.out _ _ ⟨⟨(BS2.out.cell (cell_lt d00)).trans d00, (BS2.out.cell (cell_lt d01)).trans d01⟩, box BS2.out⟩ (fun hHeld => ?_)
        clear hK K
        try simp only [Act.put, List.setIfInBounds_toArray, List.set_cons_zero, List.set_cons_succ]
        refine wpAnyH_ready (rs := [6]) (by kernel_rfl) (by simp) ?_
        refine AllReadyH.cons (o := { dst := some 63, op := Op.call { callee := Callee.builtin Builtin.append, args := #[Operand.tmp 60, Operand.tmp 62], argTypes := #[25, 25] }, type := 25, pos := "law.go:118", after := #[{ on := 3, ground := Ground.data }, { on := 5, ground := Ground.data }, { on := 3, ground := Ground.chain }], guard := none }) rfl (fun K hK => ?_) AllReadyH.nil
        refine step_append_fld _ rfl (.tmp 60) (.tmp 62) rfl (w2.drew.alloc (.cells #[.string fn, .string fv] 46)).heap.size v6 (L.take k) rfl ?a11B _ _ rfl fn fv ?b11B ?e11B HTL6 ?d11B ?_
        case a11B => exact hO6
        case b11B => exact (hb6.cell (cell_lt c62)).trans c62
        case e11B => exact (hb6.cell (cell_lt d62)).trans d62
        case d11B => exact hb6.size
        intro v7 w7 hO7 hb7
        have BS3 := box (BS2.out.trans (hb7.mono BS1.out.size))
        have O7 := box (show OwnF w7 w2.heap.size v7 _ from Go.Joins.ownsRow_le hO7 BS1.out.size)
        refine hK.out _ _ ⟨⟨(BS3.out.cell (cell_lt d00)).trans d00, (BS3.out.cell (cell_lt d01)).trans d01⟩, box BS3.out⟩ (fun hHeld => ?_)
        clear hK K
        try simp only [Act.put, List.setIfInBounds_toArray, List.set_cons_zero, List.set_cons_succ]
        refine wpAnyH_take (i := 7) (oi := { dst := some 12, op := Op.assign (Operand.tmp 63), type := 25, pos := "law.go:118", after := #[{ on := 6, ground := Ground.data }, { on := 6, ground := Ground.chain }, { on := 0, ground := Ground.phase }, { on := 1, ground := Ground.phase }, { on := 2, ground := Ground.phase }, { on := 3, ground := Ground.phase }, { on := 4, ground := Ground.phase }, { on := 5, ground := Ground.phase }, { on := 6, ground := Ground.phase }], guard := none }) (v := ?v7zB) rfl (by kernel_rfl) (by kernel_rfl) (by kernel_rfl) (fun _ _ _ h => h) (Or.inl ⟨by rfl, ?y7zB⟩) (by assumption) ?r7zB
        case y7zB => (intro w hSw; (try dsimp only at hSw); go_simp; first | done | with_reducible rfl)
        try simp only [Act.put, List.setIfInBounds_toArray, List.set_cons_zero, List.set_cons_succ]
        refine wpAnyH_done (by kernel_rfl) ?_ _
        clear hO7 hb7 hb6 hO6 hHeld BS0 BS1 BS2 c62 d62
        rcases a with _ | ad
        · have hsub : cap - k = 0 := by have := hcn.out rfl; omega
          have hm0z : m = 0 := by have := hcn.out rfl; omega
          have HDZ : Box ((L.drop k).length = 0) := box (HDL.out.trans hm0z)
          have HD0 : Box (L.drop k = []) := box (List.length_eq_zero_iff.1 (HDL.out.trans hm0z))
          have FD0 : Box (Fs w7 none (L.drop k)) := box (by rw [HD0.out]; exact Fs.nil17 _ _)
          clear hm0z
          go_wp2_with (at_builtin; refine wpList_append_flds17 _ rfl (.tmp 64) (.tmp 67) rfl w2.heap.size v7 (L.take k ++ [(fn, fv)]) (L.drop k) rfl O7.out none m 0 rfl HDL.out (fun _ => rfl) FD0.out ?lzB ?mzB BS3.out.size ?_)
          case lzB => first | omega | (rw [List.length_append, HTL.out]; simp; omega)
          case mzB => first | omega | (rw [HDL.out]; omega)
          intro v8 w8 hO8 hb8
          first | rw [HMD.out] at hO8 | rw [HMD2.out] at hO8
          have B8 := box (B2.out.trans ((BS3.out.trans hb8).mono hs2))
          obtain ⟨a8, c8, rfl, hM8, _⟩ := hO8.fs
          obtain ⟨nm, hnm⟩ : ∃ nm, (midF L (fn, fv) k).length = nm := ⟨_, rfl⟩
          have HML := box hnm
          rw [hnm]
          clear hO8 hb8 hnm
          have BT := box (B0.out.trans (B8.out.mono hs0))
          have M8 := box hM8
          have hm6 := HFI.out.2
          go_wp2_with fail
          refine (mKeys17_is x6 FX FL l6 (hX.out.1.below BT.out) (hF.out.below BT.out) (HT.out.below BT.out) HK HNX HNL).mono ?_; rintro e w9 ⟨v9, rfl, hO9, hb9⟩
          obtain ⟨a9, c9, rfl, hS9, _⟩ := hO9.kss
          have B9 := box (BT.out.trans (hb9.mono BT.out.size))
          have S9 := box hS9
          have M9 := box (M8.out.below hb9)
          clear hO9 hb9 hS9
          go_wp2_with fail
          refine (mKeys17_is x6 FX (box HFI.out.1) hm6 (hX.out.1.below B9.out) M9.out (HT.out.below B9.out) HK2 HNX HML).mono ?_; rintro e w10 ⟨v10, rfl, hO10, hb10⟩
          obtain ⟨a10, c10, rfl, hS10, _⟩ := hO10.kss
          have B10 := box (B9.out.trans (hb10.mono B9.out.size))
          have S10 := box hS10
          have S9b := box (S9.out.below hb10)
          clear hO10 hb10 hS10
          go_wp2_with fail
          refine (rSameKeys_is (q := true) k6 k6 ZK ZK S9b.out S10.out (box (decide_eq_true rfl))).mono ?_; rintro e w11 ⟨rfl, hb11⟩
          have B11 := box (B10.out.trans (hb11.mono B10.out.size))
          clear hb11
          go_wp2_with fail
          refine (awake17_any _ (HT.out.below B11.out)).mono ?_; rintro e w12 ⟨rfl, hb12⟩
          have B12 := box (B11.out.trans (hb12.mono B11.out.size))
          clear hb12
          go_wp2
          go_ret
          exact ⟨rfl, B12.out⟩
        · by_cases hkcap : k = cap
          · have hsub : cap - k = 0 := by omega
            have hck : (cap = k) = True := eq_true (by omega)
            have hm0z : m = 0 := by omega
            clear hkcap
            have HDZ : Box ((L.drop k).length = 0) := box (HDL.out.trans hm0z)
            have HD0 : Box (L.drop k = []) := box (List.length_eq_zero_iff.1 (HDL.out.trans hm0z))
            have FD0 : Box (Fs w7 (some ad) (L.drop k)) := box (by rw [HD0.out]; exact Fs.nil17 _ _)
            clear hm0z
            go_wp2_with (at_builtin; refine wpList_append_flds17 _ rfl (.tmp 64) (.tmp 67) rfl w2.heap.size v7 (L.take k ++ [(fn, fv)]) (L.drop k) rfl O7.out (some ad) m 0 rfl HDL.out (fun h => by cases h) FD0.out ?lyB ?myB BS3.out.size ?_)
            case lyB => first | omega | (rw [List.length_append, HTL.out]; simp; omega)
            case myB => first | omega | (rw [HDL.out]; omega)
            intro v8 w8 hO8 hb8
            first | rw [HMD.out] at hO8 | rw [HMD2.out] at hO8
            have B8 := box (B2.out.trans ((BS3.out.trans hb8).mono hs2))
            obtain ⟨a8, c8, rfl, hM8, _⟩ := hO8.fs
            obtain ⟨nm, hnm⟩ : ∃ nm, (midF L (fn, fv) k).length = nm := ⟨_, rfl⟩
            have HML := box hnm
            rw [hnm]
            clear hO8 hb8 hnm
            have BT := box (B0.out.trans (B8.out.mono hs0))
            have M8 := box hM8
            have hm6 := HFI.out.2
            go_wp2_with fail
            refine (mKeys17_is x6 FX FL l6 (hX.out.1.below BT.out) (hF.out.below BT.out) (HT.out.below BT.out) HK HNX HNL).mono ?_; rintro e w9 ⟨v9, rfl, hO9, hb9⟩
            obtain ⟨a9, c9, rfl, hS9, _⟩ := hO9.kss
            have B9 := box (BT.out.trans (hb9.mono BT.out.size))
            have S9 := box hS9
            have M9 := box (M8.out.below hb9)
            clear hO9 hb9 hS9
            go_wp2_with fail
            refine (mKeys17_is x6 FX (box HFI.out.1) hm6 (hX.out.1.below B9.out) M9.out (HT.out.below B9.out) HK2 HNX HML).mono ?_; rintro e w10 ⟨v10, rfl, hO10, hb10⟩
            obtain ⟨a10, c10, rfl, hS10, _⟩ := hO10.kss
            have B10 := box (B9.out.trans (hb10.mono B9.out.size))
            have S10 := box hS10
            have S9b := box (S9.out.below hb10)
            clear hO10 hb10 hS10
            go_wp2_with fail
            refine (rSameKeys_is (q := true) k6 k6 ZK ZK S9b.out S10.out (box (decide_eq_true rfl))).mono ?_; rintro e w11 ⟨rfl, hb11⟩
            have B11 := box (B10.out.trans (hb11.mono B10.out.size))
            clear hb11
            go_wp2_with fail
            refine (awake17_any _ (HT.out.below B11.out)).mono ?_; rintro e w12 ⟨rfl, hb12⟩
            have B12 := box (B11.out.trans (hb12.mono B11.out.size))
            clear hb12
            go_wp2
            go_ret
            exact ⟨rfl, B12.out⟩
          · have hkc2 : (k : Int) < (cap : Int) := by omega
            have hck : (cap = k) = False := eq_false (by omega)
            go_wp2_with (at_builtin; refine wpList_append_flds17 _ rfl (.tmp 64) (.tmp 67) rfl w2.heap.size v7 (L.take k ++ [(fn, fv)]) (L.drop k) rfl O7.out (some (ad.add (k * 2))) m (cap - k) rfl HDL.out (fun h => by cases h) ((F2.out.drop17 k).below BS3.out) ?lxB ?mxB BS3.out.size ?_)
            case lxB => first | omega | (rw [List.length_append, HTL.out]; simp; omega)
            case mxB => first | omega | (rw [HDL.out]; omega)
            intro v8 w8 hO8 hb8
            first | rw [HMD.out] at hO8 | rw [HMD2.out] at hO8
            have B8 := box (B2.out.trans ((BS3.out.trans hb8).mono hs2))
            obtain ⟨a8, c8, rfl, hM8, _⟩ := hO8.fs
            obtain ⟨nm, hnm⟩ : ∃ nm, (midF L (fn, fv) k).length = nm := ⟨_, rfl⟩
            have HML := box hnm
            rw [hnm]
            clear hO8 hb8 hnm
            have BT := box (B0.out.trans (B8.out.mono hs0))
            have M8 := box hM8
            have hm6 := HFI.out.2
            go_wp2_with fail
            refine (mKeys17_is x6 FX FL l6 (hX.out.1.below BT.out) (hF.out.below BT.out) (HT.out.below BT.out) HK HNX HNL).mono ?_; rintro e w9 ⟨v9, rfl, hO9, hb9⟩
            obtain ⟨a9, c9, rfl, hS9, _⟩ := hO9.kss
            have B9 := box (BT.out.trans (hb9.mono BT.out.size))
            have S9 := box hS9
            have M9 := box (M8.out.below hb9)
            clear hO9 hb9 hS9
            go_wp2_with fail
            refine (mKeys17_is x6 FX (box HFI.out.1) hm6 (hX.out.1.below B9.out) M9.out (HT.out.below B9.out) HK2 HNX HML).mono ?_; rintro e w10 ⟨v10, rfl, hO10, hb10⟩
            obtain ⟨a10, c10, rfl, hS10, _⟩ := hO10.kss
            have B10 := box (B9.out.trans (hb10.mono B9.out.size))
            have S10 := box hS10
            have S9b := box (S9.out.below hb10)
            clear hO10 hb10 hS10
            go_wp2_with fail
            refine (rSameKeys_is (q := true) k6 k6 ZK ZK S9b.out S10.out (box (decide_eq_true rfl))).mono ?_; rintro e w11 ⟨rfl, hb11⟩
            have B11 := box (B10.out.trans (hb11.mono B10.out.size))
            clear hb11
            go_wp2_with fail
            refine (awake17_any _ (HT.out.below B11.out)).mono ?_; rintro e w12 ⟨rfl, hb12⟩
            have B12 := box (B11.out.trans (hb12.mono B11.out.size))
            clear hb12
            go_wp2
            go_ret
            exact ⟨rfl, B12.out⟩
theorem ignores17_walk (p : Option Addr) (cp : Nat) (X : List AX) (a : Option Addr) (cap : Nat) (L : List F) (fn fv : ByteArray) (z : Int) (st : Bool) (w : World) (hx0 : X.length ≤ maxLen) (hX : Axs w p X ∧ ∀ i (hi : i < X.length), X[i].2.length ≤ maxLen) (hcx : X.length ≤ cp) (hl0 : L.length ≤ maxLen) (hF : Fs w a L) (hcl : L.length ≤ cap ∧ (a = none → cap = 0)) (hfn : fn.size ≤ maxLen) (hfv : fv.size ≤ maxLen) (hz : (Lit.int .i64 z).wf = true) (hW : Wts w) :
    Calls Tryz.prog 8 #[.slice p X.length cp, .slice a L.length cap, .agg #[.string fn, .string fv], .int .i64 z, .bool st] w fun e w' => e = .returned (.bool true) ∧ Below w.heap.size w w' := by
  have HX0 := box hx0
  have HX := box hX
  have HL0 := box hl0
  have HF := box hF
  have R1 : Box (X.length = X.length) := box rfl
  have R2 : Box (L.length = L.length) := box rfl
  cases q1 : keepA X with
  | false => exact ignores17_no0 HX0 HX HL0 HF R1 R2 (box q1)
  | true =>
    cases q2 : keepF L with
    | false => exact ignores17_no1 HX0 HX HL0 HF R1 R2 (box q1) (box q2)
    | true =>
      by_cases h1 : fn.size ≤ 100
      · by_cases h2 : fv.size ≤ 100
        · by_cases h3 : z < 0
          · exact ignores17_no4 HX0 HX HL0 HF R1 R2 (box q1) (box q2) h1 h2 h3
          · by_cases h4 : (L.length : Int) < z
            · exact ignores17_no5 HX0 HX HL0 HF R1 R2 (box q1) (box q2) h1 h2 h3 h4
            · obtain ⟨k, rfl⟩ : ∃ k : Nat, z = (k : Int) := ⟨z.toNat, by omega⟩
              exact ignores17_in p cp _ X a cap _ L fn fv k st w HX0 HX HL0 HF hW R1 R2 hcl.1 (box hcl.2) (box q1) (box q2) h1 h2 (by omega)
        · exact ignores17_no3 HX0 HX HL0 HF R1 R2 (box q1) (box q2) h1 (by omega)
      · exact ignores17_no2 HX0 HX HL0 HF R1 R2 (box q1) (box q2) (by omega)
end
end Go.Proofs.YtjjlgnackjjbfaaGreatDoor.Asc
