/- Merged texts: ClsLaws2. -/
import Derived.Test.YtklfpkaemnhdhaaGreatDoorZb17
set_option linter.unusedVariables false
set_option linter.unusedSimpArgs false
set_option maxRecDepth 100000
namespace Go.Proofs.YtklfpkaemnhdhaaGreatDoor.Asc
section
open Go.RowKit
theorem norm_fit {k : Int} {L : List F} {V : List ByteArray} (hL : keepF L = true) (h1 : V.length ≤ 20) (h2 : ∀ v ∈ V, v.size ≤ 100) : FitL (normF k L V) := by
  obtain ⟨l1, l2⟩ := keep_parts hL
  have hlen := normF_len (k := k) (L := L) (V := V)
  refine fit_small (m := 0) (by omega) (fun i hi => ?_)
  have hm := List.getElem_mem hi
  obtain ⟨p, hp⟩ : ∃ p, (normF k L V)[i] = p := ⟨_, rfl⟩
  rw [hp] at hm ⊢
  have hLm : ∀ p ∈ L, p.1.size ≤ 9000 ∧ p.2.size ≤ 9000 := fun p hp => by
    obtain ⟨j, hj, rfl⟩ := List.getElem_of_mem hp
    have := l2 j hj; omega
  unfold normF at hm
  split at hm
  · rcases List.mem_append.1 hm with h3 | h3
    · exact hLm p (List.mem_filter.1 h3).1
    · rw [List.mem_singleton.1 h3]
      refine ⟨by show (nameK k).size ≤ 9000; have := nameK_size k; omega, ?_⟩
      show (fmtPf (normP k L V)).size ≤ 9000
      have hP : (normP k L V).length ≤ 20 := by
        unfold normP
        rw [List.length_map]
        have := List.length_filter_le (nameV k) V; omega
      have hj := joinC_len13 ((normP k L V).map onePref) 108 (fun m hm => by
        obtain ⟨q, hq, rfl⟩ := List.mem_map.1 hm
        have h4 := one_len q
        unfold normP at hq
        obtain ⟨v, hv, rfl⟩ := List.mem_map.1 hq
        have h5 := h2 v (List.mem_filter.1 hv).1
        have h6 : (onePref (v, qualR k (prefsV k L) (prefsO k L) v.data.toList)).length ≤ v.size + 8 := h4
        omega)
      rw [List.length_map] at hj
      have he : (fmtPf (normP k L V)).size = (joinC ((normP k L V).map onePref)).length := by
        unfold fmtPf joinB
        rw [bs_size, List.map_map]
        rfl
      have h7 : (normP k L V).length * (108 + 2) ≤ 20 * 110 := Nat.mul_le_mul hP (Nat.le_refl _)
      omega
  · exact hLm p hm
set_option maxHeartbeats 8000000 in
theorem normal18_in (p : Option Addr) (cp nx : Nat) (X : List AX) (a : Option Addr) (ca nl : Nat) (L : List F) (z : Int) (st : Bool) (w : World) (hx0 : Box (X.length ≤ maxLen)) (hX : Box (Axs w p X ∧ ∀ i (hi : i < X.length), X[i].2.length ≤ maxLen)) (hl0 : Box (L.length ≤ maxLen)) (hF : Box (Fs w a L)) (hz : InI64 z) (hW : Wts w) (HNX : Box (X.length = nx)) (HNL : Box (L.length = nl)) :
    Calls Tryz.prog 9 #[.slice p nx cp, .slice a nl ca, .int .i64 z, .bool st] w fun e w' => e = .returned (.bool true) ∧ Below w.heap.size w w' := by
  have HT := box hW
  have B0 := box (Below.refl w.heap.size w)
  obtain ⟨q1, hq1⟩ : ∃ q, keepA X = q := ⟨_, rfl⟩
  obtain ⟨q2, hq2⟩ : ∃ q, validX X = q := ⟨_, rfl⟩
  obtain ⟨q3, hq3⟩ : ∃ q, keepF L = q := ⟨_, rfl⟩
  have Q1 := box hq1
  have Q2 := box hq2
  have Q3 := box hq3
  cases q1 with
  | false =>
    clear hq1 hq2 hq3 hW
    go_enter Tryz.func9, Tryz.ntmps9
    go_wp2_with fail
    refine (keepA17_is hx0.out hX.out Q1 HNX).mono ?_; rintro e w1 ⟨rfl, rfl⟩
    go_wp2
    go_ret
    exact ⟨rfl, Below.refl _ _⟩
  | true =>
    have x6 : X.length ≤ 65536 := by have := (keep_fit hq1).1; omega
    have FX := box (fit_keepA hq1)
    cases q2 with
    | false =>
      clear hq1 hq2 hq3 hW
      go_enter Tryz.func9, Tryz.ntmps9
      go_wp2_with fail
      refine (keepA17_is hx0.out hX.out Q1 HNX).mono ?_; rintro e w1 ⟨rfl, rfl⟩
      go_wp2_with fail
      refine (rValid17_is x6 FX hX.out.1 Q2 HNX).mono ?_; rintro e w1 ⟨rfl, hb1⟩
      have B1 := box hb1
      clear hb1
      go_wp2
      go_ret
      exact ⟨rfl, B1.out⟩
    | true =>
      cases q3 with
      | false =>
        clear hq1 hq2 hq3 hW
        go_enter Tryz.func9, Tryz.ntmps9
        go_wp2_with fail
        refine (keepA17_is hx0.out hX.out Q1 HNX).mono ?_; rintro e w1 ⟨rfl, rfl⟩
        go_wp2_with fail
        refine (rValid17_is x6 FX hX.out.1 Q2 HNX).mono ?_; rintro e w1 ⟨rfl, hb1⟩
        have B1 := box hb1
        clear hb1
        go_wp2_with fail
        refine (keepF17_is hl0.out (hF.out.below B1.out) Q3 HNL).mono ?_; rintro e w2 ⟨rfl, rfl⟩
        go_wp2
        go_ret
        exact ⟨rfl, B1.out⟩
      | true =>
        by_cases hz0 : z < 0
        · clear hq1 hq2 hq3 hW
          go_enter Tryz.func9, Tryz.ntmps9
          go_wp2_with fail
          refine (keepA17_is hx0.out hX.out Q1 HNX).mono ?_; rintro e w1 ⟨rfl, rfl⟩
          go_wp2_with fail
          refine (rValid17_is x6 FX hX.out.1 Q2 HNX).mono ?_; rintro e w1 ⟨rfl, hb1⟩
          have B1 := box hb1
          clear hb1
          go_wp2_with fail
          refine (keepF17_is hl0.out (hF.out.below B1.out) Q3 HNL).mono ?_; rintro e w2 ⟨rfl, rfl⟩
          go_wp2
          go_ret
          exact ⟨rfl, B1.out⟩
        · by_cases hz1 : (nx : Int) ≤ z
          · clear hq1 hq2 hq3 hW
            go_enter Tryz.func9, Tryz.ntmps9
            go_wp2_with fail
            refine (keepA17_is hx0.out hX.out Q1 HNX).mono ?_; rintro e w1 ⟨rfl, rfl⟩
            go_wp2_with fail
            refine (rValid17_is x6 FX hX.out.1 Q2 HNX).mono ?_; rintro e w1 ⟨rfl, hb1⟩
            have B1 := box hb1
            clear hb1
            go_wp2_with fail
            refine (keepF17_is hl0.out (hF.out.below B1.out) Q3 HNL).mono ?_; rintro e w2 ⟨rfl, rfl⟩
            go_wp2
            go_ret
            exact ⟨rfl, B1.out⟩
          · have ZX := box (fitC_keep hq1)
            have FL := box (fit_keepF hq3)
            obtain ⟨i, rfl⟩ : ∃ i : Nat, z = i := ⟨z.toNat, by omega⟩
            have hi0 : (0 : Int) ≤ (i : Int) := by omega
            have hinx : (i : Int) < (nx : Int) := by omega
            have hiX : i < X.length := by have := HNX.out; omega
            obtain ⟨g, off, v, hp, f0, f1, b, c, rfl, hss, hcc⟩ := hX.out.1 i hiX
            subst hp
            obtain ⟨y1, y2, y3⟩ := ZX.out i hiX
            obtain ⟨_, y4, y5⟩ := (keepA_parts hq1).2 i hiX
            have hsame := norm_same (L := L) (st := st) hq2 hiX
            obtain ⟨n, hn⟩ : ∃ n, X[i].1 = n := ⟨_, rfl⟩
            obtain ⟨V, hV⟩ : ∃ V, X[i].2 = V := ⟨_, rfl⟩
            rw [hn] at f0 y1 hsame
            rw [hV] at f1 hss hsame y4 y5
            obtain ⟨k, hk⟩ : ∃ k, kindN n = k := ⟨_, rfl⟩
            have HK := box hk
            have hki : InI64 k := by rw [← hk]; exact kindN_i64 n
            rw [hk] at hsame
            obtain ⟨m, hm⟩ : ∃ m, V.length = m := ⟨_, rfl⟩
            have HM := box hm
            rw [hm] at f1
            have hn4 : n.size ≤ 4294967296 := by omega
            have v6 : V.length ≤ 65536 := by omega
            have HVZ : Box (∀ v ∈ V, v.size ≤ 20000) := box (fun v hv => by have := y5 v hv; omega)
            obtain ⟨N, hN⟩ : ∃ N, normF k L V = N := ⟨_, rfl⟩
            have HN := box hN
            rw [hN] at hsame
            have FN : Box (FitL N) := box (by rw [← hN]; exact norm_fit hq3 y4 y5)
            have HSM := box hsame
            have HSS := box hss
            have c0w := box f0
            have c1w := box f1
            have c0 := (B0.out.cell (cell_lt c0w.out)).trans c0w.out
            have c1 := (B0.out.cell (cell_lt c1w.out)).trans c1w.out
            clear hq1 hq2 hq3 hW hn hV hk hm hN hsame hss f0 f1 y2 y3 y4 y5 c0 c1 hcc
            go_enter Tryz.func9, Tryz.ntmps9
            go_wp2_with fail
            refine (keepA17_is hx0.out hX.out Q1 HNX).mono ?_; rintro e w1 ⟨rfl, rfl⟩
            go_wp2_with fail
            refine (rValid17_is x6 FX hX.out.1 Q2 HNX).mono ?_; rintro e w1 ⟨rfl, hb1⟩
            have B1 := box hb1
            clear hb1
            go_wp2_with fail
            refine (keepF17_is hl0.out (hF.out.below B1.out) Q3 HNL).mono ?_; rintro e w2 ⟨rfl, rfl⟩
            have d0 := (B1.out.cell (cell_lt c0w.out)).trans c0w.out
            have d1 := (B1.out.cell (cell_lt c1w.out)).trans c1w.out
            go_wp2
            refine wp_region_held_drew (S := (fun w' : World => (w'.cell? ⟨g, off + i * 2, none⟩ = some (.string n) ∧ w'.cell? ⟨g, off + i * 2 + 1, none⟩ = some (.slice b m c)) ∧ Box (Below w.heap.size w w'))) (by kernel_rfl) ⟨⟨(B1.out.cell (cell_lt c0w.out)).trans c0w.out, (B1.out.cell (cell_lt c1w.out)).trans c1w.out⟩, box B1.out.drew⟩ (fun hHeld => ?_)
            refine wpAnyH_take (i := 0) (oi := { dst := some 33, op := Op.move (Operand.tmp 0), type := 22, pos := "law.go:107", after := #[], guard := none }) (v := ?v0z1) rfl (by kernel_rfl) (by kernel_rfl) (by kernel_rfl) (fun _ _ _ h => h) (Or.inl ⟨by rfl, ?y0z1⟩) (by assumption) ?r0z1
            case y0z1 => (intro w hSw; (try dsimp only at hSw); go_simp; first | done | with_reducible rfl)
            try simp only [Act.put, List.setIfInBounds_toArray, List.set_cons_zero, List.set_cons_succ]
            refine wpAnyH_take (i := 1) (oi := { dst := some 34, op := Op.move (Operand.tmp 2), type := 3, pos := "law.go:107", after := #[], guard := none }) (v := ?v1z1) rfl (by kernel_rfl) (by kernel_rfl) (by kernel_rfl) (fun _ _ _ h => h) (Or.inl ⟨by rfl, ?y1z1⟩) (by assumption) ?r1z1
            case y1z1 => (intro w hSw; (try dsimp only at hSw); go_simp; first | done | with_reducible rfl)
            try simp only [Act.put, List.setIfInBounds_toArray, List.set_cons_zero, List.set_cons_succ]
            refine wpAnyH_take (i := 2) (oi := { dst := some 35, op := Op.indexAddr 22 (Operand.tmp 33) (Operand.tmp 34), type := 0, pos := "law.go:107", after := #[{ on := 0, ground := Ground.data }, { on := 1, ground := Ground.data }], guard := none }) (v := ?v2z1) rfl (by kernel_rfl) (by kernel_rfl) (by kernel_rfl) (fun _ _ _ h => h) (Or.inl ⟨by rfl, ?y2z1⟩) (by assumption) ?r2z1
            case y2z1 => (intro w hSw; (try dsimp only at hSw); go_simp; first | done | with_reducible rfl)
            try simp only [Act.put, List.setIfInBounds_toArray, List.set_cons_zero, List.set_cons_succ]
            refine wpAnyH_take (i := 3) (oi := { dst := some 36, op := Op.fieldAddr 39 (Operand.tmp 35) 0, type := 0, pos := "law.go:107", after := #[{ on := 2, ground := Ground.data }], guard := none }) (v := ?v3z1) rfl (by kernel_rfl) (by kernel_rfl) (by kernel_rfl) (fun _ _ _ h => h) (Or.inl ⟨by rfl, ?y3z1⟩) (by assumption) ?r3z1
            case y3z1 => (intro w hSw; (try dsimp only at hSw); go_simp; first | done | with_reducible rfl)
            try simp only [Act.put, List.setIfInBounds_toArray, List.set_cons_zero, List.set_cons_succ]
            refine wpAnyH_take (i := 4) (oi := { dst := some 37, op := Op.load 9 (Operand.tmp 36), type := 9, pos := "law.go:107", after := #[{ on := 3, ground := Ground.data }], guard := none }) (v := ?v4z1) rfl (by kernel_rfl) (by kernel_rfl) (by kernel_rfl) (fun _ _ _ h => h) (Or.inl ⟨by rfl, ?y4z1⟩) (by assumption) ?r4z1
            case y4z1 => (intro w hSw; (try dsimp only at hSw); go_simp; first | done | with_reducible rfl)
            try simp only [Act.put, List.setIfInBounds_toArray, List.set_cons_zero, List.set_cons_succ]
            refine wpAnyH_take (i := 6) (oi := { dst := some 39, op := Op.move (Operand.tmp 1), type := 23, pos := "law.go:107", after := #[], guard := none }) (v := ?v6z1) rfl (by kernel_rfl) (by kernel_rfl) (by kernel_rfl) (fun _ _ _ h => h) (Or.inl ⟨by rfl, ?y6z1⟩) (by assumption) ?r6z1
            case y6z1 => (intro w hSw; (try dsimp only at hSw); go_simp; first | done | with_reducible rfl)
            try simp only [Act.put, List.setIfInBounds_toArray, List.set_cons_zero, List.set_cons_succ]
            refine wpAnyH_take (i := 7) (oi := { dst := some 40, op := Op.move (Operand.tmp 0), type := 22, pos := "law.go:107", after := #[], guard := none }) (v := ?v7z1) rfl (by kernel_rfl) (by kernel_rfl) (by kernel_rfl) (fun _ _ _ h => h) (Or.inl ⟨by rfl, ?y7z1⟩) (by assumption) ?r7z1
            case y7z1 => (intro w hSw; (try dsimp only at hSw); go_simp; first | done | with_reducible rfl)
            try simp only [Act.put, List.setIfInBounds_toArray, List.set_cons_zero, List.set_cons_succ]
            refine wpAnyH_take (i := 8) (oi := { dst := some 41, op := Op.move (Operand.tmp 2), type := 3, pos := "law.go:107", after := #[], guard := none }) (v := ?v8z1) rfl (by kernel_rfl) (by kernel_rfl) (by kernel_rfl) (fun _ _ _ h => h) (Or.inl ⟨by rfl, ?y8z1⟩) (by assumption) ?r8z1
            case y8z1 => (intro w hSw; (try dsimp only at hSw); go_simp; first | done | with_reducible rfl)
            try simp only [Act.put, List.setIfInBounds_toArray, List.set_cons_zero, List.set_cons_succ]
            refine wpAnyH_take (i := 9) (oi := { dst := some 42, op := Op.indexAddr 22 (Operand.tmp 40) (Operand.tmp 41), type := 0, pos := "law.go:107", after := #[{ on := 7, ground := Ground.data }, { on := 8, ground := Ground.data }], guard := none }) (v := ?v9z1) rfl (by kernel_rfl) (by kernel_rfl) (by kernel_rfl) (fun _ _ _ h => h) (Or.inl ⟨by rfl, ?y9z1⟩) (by assumption) ?r9z1
            case y9z1 => (intro w hSw; (try dsimp only at hSw); go_simp; first | done | with_reducible rfl)
            try simp only [Act.put, List.setIfInBounds_toArray, List.set_cons_zero, List.set_cons_succ]
            refine wpAnyH_take (i := 10) (oi := { dst := some 43, op := Op.fieldAddr 39 (Operand.tmp 42) 1, type := 0, pos := "law.go:107", after := #[{ on := 9, ground := Ground.data }], guard := none }) (v := ?v10z1) rfl (by kernel_rfl) (by kernel_rfl) (by kernel_rfl) (fun _ _ _ h => h) (Or.inl ⟨by rfl, ?y10z1⟩) (by assumption) ?r10z1
            case y10z1 => (intro w hSw; (try dsimp only at hSw); go_simp; first | done | with_reducible rfl)
            try simp only [Act.put, List.setIfInBounds_toArray, List.set_cons_zero, List.set_cons_succ]
            refine wpAnyH_take (i := 11) (oi := { dst := some 44, op := Op.load 29 (Operand.tmp 43), type := 29, pos := "law.go:107", after := #[{ on := 10, ground := Ground.data }], guard := none }) (v := ?v11z1) rfl (by kernel_rfl) (by kernel_rfl) (by kernel_rfl) (fun _ _ _ h => h) (Or.inl ⟨by rfl, ?y11z1⟩) (by assumption) ?r11z1
            case y11z1 => (intro w hSw; (try dsimp only at hSw); go_simp; first | done | with_reducible rfl)
            try simp only [Act.put, List.setIfInBounds_toArray, List.set_cons_zero, List.set_cons_succ]
            refine wpAnyH_ready (rs := [5]) (by kernel_rfl) (by simp) ?_
            refine AllReadyH.cons (o := { dst := some 38, op := Op.call { callee := Callee.value (Operand.func 27), args := #[Operand.tmp 37], argTypes := #[9] }, type := 3, pos := "law.go:107", after := #[{ on := 4, ground := Ground.data }], guard := none }) rfl (fun K hK => ?_) AllReadyH.nil
            go_simp
            refine (rKind15_is hn4 HK).mono ?_; rintro e w3 ⟨rfl, hb3⟩
            have B3 := box (hHeld.2.out.trans (hb3.mono hHeld.2.out.size))
            clear hb3
            go_wp2_with fail
            refine hK.out _ _ ⟨⟨(B3.out.cell (cell_lt c0w.out)).trans c0w.out, (B3.out.cell (cell_lt c1w.out)).trans c1w.out⟩, B3⟩ (fun hHeld => ?_)
            clear hK K
            try simp only [Act.put, List.setIfInBounds_toArray, List.set_cons_zero, List.set_cons_succ]
            refine wpAnyH_ready (rs := [12]) (by kernel_rfl) (by simp) ?_
            refine AllReadyH.cons (o := { dst := some 45, op := Op.call { callee := Callee.value (Operand.func 19), args := #[Operand.tmp 38, Operand.tmp 39, Operand.tmp 44], argTypes := #[3, 23, 29] }, type := 23, pos := "law.go:107", after := #[{ on := 5, ground := Ground.data }, { on := 6, ground := Ground.data }, { on := 11, ground := Ground.data }, { on := 5, ground := Ground.chain }], guard := none }) rfl (fun K hK => ?_) AllReadyH.nil
            go_simp
            refine (mNorm_is hki FL v6 HVZ (hF.out.below B3.out) (HSS.out.below B3.out) (HT.out.below B3.out) HN HNL HM).mono ?_; rintro e w4 ⟨v4, rfl, hO4, hb4⟩
            obtain ⟨a4, c4, rfl, hS4, _⟩ := hO4.fs
            have B4 := box (B3.out.trans (hb4.mono B3.out.size))
            have S4 := box hS4
            clear hO4 hb4 hS4
            go_wp2_with fail
            refine hK.out _ _ ⟨⟨(B4.out.cell (cell_lt c0w.out)).trans c0w.out, (B4.out.cell (cell_lt c1w.out)).trans c1w.out⟩, B4⟩ (fun hHeld => ?_)
            clear hK K
            try simp only [Act.put, List.setIfInBounds_toArray, List.set_cons_zero, List.set_cons_succ]
            refine wpAnyH_take (i := 13) (oi := { dst := some 9, op := Op.assign (Operand.tmp 45), type := 23, pos := "law.go:107", after := #[{ on := 12, ground := Ground.data }, { on := 12, ground := Ground.chain }, { on := 0, ground := Ground.phase }, { on := 1, ground := Ground.phase }, { on := 2, ground := Ground.phase }, { on := 3, ground := Ground.phase }, { on := 4, ground := Ground.phase }, { on := 5, ground := Ground.phase }, { on := 6, ground := Ground.phase }, { on := 7, ground := Ground.phase }, { on := 8, ground := Ground.phase }, { on := 9, ground := Ground.phase }, { on := 10, ground := Ground.phase }, { on := 11, ground := Ground.phase }, { on := 12, ground := Ground.phase }], guard := none }) (v := ?v13z1) rfl (by kernel_rfl) (by kernel_rfl) (by kernel_rfl) (fun _ _ _ h => h) (Or.inl ⟨by rfl, ?y13z1⟩) (by assumption) ?r13z1
            case y13z1 => (intro w hSw; (try dsimp only at hSw); go_simp; first | done | with_reducible rfl)
            try simp only [Act.put, List.setIfInBounds_toArray, List.set_cons_zero, List.set_cons_succ]
            refine wpAnyH_done (by kernel_rfl) ?_ _
            go_wp2_with fail
            refine (mSame18_is x6 ZX FL FN (hX.out.1.below B4.out) (hF.out.below B4.out) S4.out (HT.out.below B4.out) HSM HNX HNL (box rfl)).mono ?_; rintro e w5 ⟨rfl, hb5⟩
            have B5 := box (B4.out.trans (hb5.mono B4.out.size))
            clear hb5
            go_wp2_with fail
            refine (awake18_any _ (HT.out.below B5.out)).mono ?_; rintro e w6 ⟨rfl, hb6⟩
            have B6 := box (B5.out.trans (hb6.mono B5.out.size))
            clear hb6
            go_wp2
            go_ret
            exact ⟨rfl, B6.out⟩
theorem normal18_walk (p : Option Addr) (cp : Nat) (X : List AX) (a : Option Addr) (ca : Nat) (L : List F) (z : Int) (st : Bool) (w : World) (hx0 : X.length ≤ maxLen) (hX : Axs w p X ∧ ∀ i (hi : i < X.length), X[i].2.length ≤ maxLen) (hcx : X.length ≤ cp) (hl0 : L.length ≤ maxLen) (hF : Fs w a L) (hcl : L.length ≤ ca) (hz : (Lit.int .i64 z).wf = true) (hW : Wts w) :
    Calls Tryz.prog 9 #[.slice p X.length cp, .slice a L.length ca, .int .i64 z, .bool st] w fun e w' => e = .returned (.bool true) ∧ Below w.heap.size w w' :=
  normal18_in p cp _ X a ca _ L z st w (box hx0) (box hX) (box hl0) (box hF) (in13 hz) hW (box rfl) (box rfl)
end
end Go.Proofs.YtklfpkaemnhdhaaGreatDoor.Asc
