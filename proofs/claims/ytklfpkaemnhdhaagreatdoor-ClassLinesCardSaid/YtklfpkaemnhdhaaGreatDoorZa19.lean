/- Merged texts: ClsLaws4 ClsLaws3. -/
import Derived.Test.YtklfpkaemnhdhaaGreatDoorZa11
import Derived.Test.YtklfpkaemnhdhaaGreatDoorZa18
set_option linter.unusedVariables false
set_option linter.unusedSimpArgs false
set_option maxRecDepth 100000
namespace Go.Proofs.YtklfpkaemnhdhaaGreatDoor.Asc
section
open Go.RowKit
theorem rem_small18 {n : ByteArray} {L : List F} (h : keepF L = true) : (remL n L).length ≤ 70 ∧ ∀ p ∈ remL n L, p.1.size ≤ 300 ∧ p.2.size ≤ 300 := by
  obtain ⟨l1, l2⟩ := keep_parts h
  refine ⟨by unfold remL; have := List.length_filter_le (fun p => !nmd n p) L; omega, fun p hp => ?_⟩
  obtain ⟨i, hi, rfl⟩ := List.getElem_of_mem (List.mem_filter.1 hp).1
  exact l2 i hi
theorem fit_mem18 {L : List F} (h1 : L.length ≤ 65536) (h2 : ∀ p ∈ L, p.1.size ≤ 9000 ∧ p.2.size ≤ 9000) : FitL L := fit_small (m := 0) h1 (fun i hi => h2 _ (List.getElem_mem hi))
theorem fit_two18 {M : List F} {n a b : ByteArray} (h1 : M.length ≤ 70) (h2 : ∀ p ∈ M, p.1.size ≤ 300 ∧ p.2.size ≤ 300) (hn : n.size ≤ 9000) (ha : a.size ≤ 9000) (hb : b.size ≤ 9000) : FitL (M ++ [(n, a), (n, b)]) := by
  refine fit_mem18 (by rw [List.length_append]; simp only [List.length_cons, List.length_nil]; omega) (fun p hp => ?_)
  rcases List.mem_append.1 hp with h | h
  · have := h2 p h; omega
  · simp only [List.mem_cons, List.not_mem_nil, or_false] at h
    rcases h with rfl | rfl
    · exact ⟨hn, ha⟩
    · exact ⟨hn, hb⟩
theorem fit_cons18 {M : List F} {m t : ByteArray} (h1 : M.length ≤ 70) (h2 : ∀ p ∈ M, p.1.size ≤ 300 ∧ p.2.size ≤ 300) (hm : m.size ≤ 9000) (ht : t.size ≤ 9000) : FitL ((m, t) :: M) := by
  refine fit_mem18 (by rw [List.length_cons]; omega) (fun p hp => ?_)
  rcases List.mem_cons.1 hp with rfl | h
  · exact ⟨hm, ht⟩
  · have := h2 p h; omega
theorem OwnF.one18 {w : World} {B : Nat} (hB : B ≤ w.heap.size) (n v : ByteArray) : OwnF (w.alloc (.cells #[.string n, .string v] 42)) B (.slice (some ⟨w.heap.size, 0, none⟩) 1 1) [(n, v)] :=
  World.ownsRow_lit w #[.string n, .string v] 1 hB (by decide) rfl
set_option maxHeartbeats 16000000 in
theorem lines18_in (p : Option Addr) (cp nx : Nat) (X : List AX) (ad : Option Addr) (ca nl : Nat) (L : List F) (z : Int) (a b : ByteArray) (st : Bool) (w : World) (hx0 : Box (X.length ≤ maxLen)) (hX : Box (Axs w p X ∧ ∀ i (hi : i < X.length), X[i].2.length ≤ maxLen)) (hl0 : Box (L.length ≤ maxLen)) (hF : Box (Fs w ad L)) (hz : InI64 z) (hW : Wts w) (HNX : Box (X.length = nx)) (HNL : Box (L.length = nl)) :
    Calls Tryz.prog 6 #[.slice p nx cp, .slice ad nl ca, .int .i64 z, .string a, .string b, .bool st] w fun e w' => e = .returned (.bool true) ∧ Below w.heap.size w w' := by
  have HT := box hW
  obtain ⟨q1, hq1⟩ : ∃ q, keepA X = q := ⟨_, rfl⟩
  obtain ⟨q2, hq2⟩ : ∃ q, validX X = q := ⟨_, rfl⟩
  obtain ⟨q3, hq3⟩ : ∃ q, keepF L = q := ⟨_, rfl⟩
  have Q1 := box hq1
  have Q2 := box hq2
  have Q3 := box hq3
  obtain ⟨n1, hn1⟩ : ∃ n, (splitL (a.data.toList ++ [44, 120])).length = n := ⟨_, rfl⟩
  obtain ⟨n2, hn2⟩ : ∃ n, (splitL a.data.toList).length = n := ⟨_, rfl⟩
  obtain ⟨ax, hax⟩ : ∃ ax, a ++ (⟨#[44, 120]⟩ : ByteArray) = ax := ⟨_, rfl⟩
  have H1 : Box ((splitL ax.data.toList).length = n1) := box (by rw [← hax, ← hn1]; simp [ByteArray.data_append])
  have H2 := box hn2
  have hn2l : n2 ≤ 64 := by rw [← hn2]; exact split_len _
  have hwr : IntKind.i64.wrap ((n2 : Int) + 1) = (n2 : Int) + 1 := by simp [IntKind.wrap, IntKind.bits, IntKind.signed]; omega
  cases q1 with
  | false =>
    clear hq1 hq2 hq3 hW
    go_enter Tryz.func6, Tryz.ntmps6
    go_wp2_with fail
    refine (keepA17_is hx0.out hX.out Q1 HNX).mono ?_; rintro e w1 ⟨rfl, rfl⟩
    go_wp2
    go_ret
    exact ⟨rfl, Below.refl _ _⟩
  | true =>
    have x6 : X.length ≤ 65536 := by have := (keep_fit hq1).1; omega
    have FX := box (fit_keepA hq1)
    cases q2 with
    | false =>
      clear hq1 hq2 hq3 hW
      go_enter Tryz.func6, Tryz.ntmps6
      go_wp2_with fail
      refine (keepA17_is hx0.out hX.out Q1 HNX).mono ?_; rintro e w1 ⟨rfl, rfl⟩
      go_wp2_with fail
      refine (rValid17_is x6 FX hX.out.1 Q2 HNX).mono ?_; rintro e w1 ⟨rfl, hb1⟩
      have B1 := box hb1
      clear hb1
      go_wp2
      go_ret
      exact ⟨rfl, B1.out⟩
    | true =>
      cases q3 with
      | false =>
        clear hq1 hq2 hq3 hW
        go_enter Tryz.func6, Tryz.ntmps6
        go_wp2_with fail
        refine (keepA17_is hx0.out hX.out Q1 HNX).mono ?_; rintro e w1 ⟨rfl, rfl⟩
        go_wp2_with fail
        refine (rValid17_is x6 FX hX.out.1 Q2 HNX).mono ?_; rintro e w1 ⟨rfl, hb1⟩
        have B1 := box hb1
        clear hb1
        go_wp2_with fail
        refine (keepF17_is hl0.out (hF.out.below B1.out) Q3 HNL).mono ?_; rintro e w2 ⟨rfl, rfl⟩
        go_wp2
        go_ret
        exact ⟨rfl, B1.out⟩
      | true =>
        by_cases hz0 : z < 0
        · clear hq1 hq2 hq3 hW
          go_enter Tryz.func6, Tryz.ntmps6
          go_wp2_with fail
          refine (keepA17_is hx0.out hX.out Q1 HNX).mono ?_; rintro e w1 ⟨rfl, rfl⟩
          go_wp2_with fail
          refine (rValid17_is x6 FX hX.out.1 Q2 HNX).mono ?_; rintro e w1 ⟨rfl, hb1⟩
          have B1 := box hb1
          clear hb1
          go_wp2_with fail
          refine (keepF17_is hl0.out (hF.out.below B1.out) Q3 HNL).mono ?_; rintro e w2 ⟨rfl, rfl⟩
          go_wp2
          go_ret
          exact ⟨rfl, B1.out⟩
        · by_cases hz2 : (nx : Int) ≤ z
          · clear hq1 hq2 hq3 hW
            go_enter Tryz.func6, Tryz.ntmps6
            go_wp2_with fail
            refine (keepA17_is hx0.out hX.out Q1 HNX).mono ?_; rintro e w1 ⟨rfl, rfl⟩
            go_wp2_with fail
            refine (rValid17_is x6 FX hX.out.1 Q2 HNX).mono ?_; rintro e w1 ⟨rfl, hb1⟩
            have B1 := box hb1
            clear hb1
            go_wp2_with fail
            refine (keepF17_is hl0.out (hF.out.below B1.out) Q3 HNL).mono ?_; rintro e w2 ⟨rfl, rfl⟩
            go_wp2
            go_ret
            exact ⟨rfl, B1.out⟩
          · by_cases ha0 : (200 : Int) < (a.size : Int)
            · clear hq1 hq2 hq3 hW
              go_enter Tryz.func6, Tryz.ntmps6
              go_wp2_with fail
              refine (keepA17_is hx0.out hX.out Q1 HNX).mono ?_; rintro e w1 ⟨rfl, rfl⟩
              go_wp2_with fail
              refine (rValid17_is x6 FX hX.out.1 Q2 HNX).mono ?_; rintro e w1 ⟨rfl, hb1⟩
              have B1 := box hb1
              clear hb1
              go_wp2_with fail
              refine (keepF17_is hl0.out (hF.out.below B1.out) Q3 HNL).mono ?_; rintro e w2 ⟨rfl, rfl⟩
              go_wp2
              go_ret
              exact ⟨rfl, B1.out⟩
            · by_cases hb0 : (200 : Int) < (b.size : Int)
              · clear hq1 hq2 hq3 hW
                go_enter Tryz.func6, Tryz.ntmps6
                go_wp2_with fail
                refine (keepA17_is hx0.out hX.out Q1 HNX).mono ?_; rintro e w1 ⟨rfl, rfl⟩
                go_wp2_with fail
                refine (rValid17_is x6 FX hX.out.1 Q2 HNX).mono ?_; rintro e w1 ⟨rfl, hb1⟩
                have B1 := box hb1
                clear hb1
                go_wp2_with fail
                refine (keepF17_is hl0.out (hF.out.below B1.out) Q3 HNL).mono ?_; rintro e w2 ⟨rfl, rfl⟩
                go_wp2
                go_ret
                exact ⟨rfl, B1.out⟩
              · by_cases hne : n1 ≠ n2 + 1
                · have hni : ((n1 : Int) != (n2 : Int) + 1) = true := by rw [bne_iff_ne]; omega
                  have ha6 : a.size ≤ 65000 := by omega
                  have hz1 : ax.size ≤ 65000 := by rw [← hax, ByteArray.size_append]; show a.size + 2 ≤ 65000; omega
                  have r0 : ∀ w, (Op.stringOp .add a ⟨#[44, 120]⟩).run Tryz.prog w = .ok (.string ax) w := fun w => by
                    have := run_string_add_sum (P := Tryz.prog) w a ⟨#[44, 120]⟩ (by show a.size + 2 ≤ 9223372036854775807; omega)
                    rw [hax] at this; exact this
                  clear hne hn1 hn2 hax
                  clear hq1 hq2 hq3 hW
                  go_enter Tryz.func6, Tryz.ntmps6
                  go_wp2_with fail
                  refine (keepA17_is hx0.out hX.out Q1 HNX).mono ?_; rintro e w1 ⟨rfl, rfl⟩
                  go_wp2_with fail
                  refine (rValid17_is x6 FX hX.out.1 Q2 HNX).mono ?_; rintro e w1 ⟨rfl, hb1⟩
                  have B1 := box hb1
                  clear hb1
                  go_wp2_with fail
                  refine (keepF17_is hl0.out (hF.out.below B1.out) Q3 HNL).mono ?_; rintro e w2 ⟨rfl, rfl⟩
                  go_wp2_with fail
                  refine (rSplitLen_is hz1 H1).mono ?_; rintro e w2 ⟨p2, c2, rfl, hb2⟩
                  have B2 := box (B1.out.trans (hb2.mono B1.out.size))
                  clear hb2
                  go_wp2_with fail
                  refine (rSplitLen_is ha6 H2).mono ?_; rintro e w3 ⟨p3, c3, rfl, hb3⟩
                  have B3 := box (B2.out.trans (hb3.mono B2.out.size))
                  clear hb3
                  go_wp2
                  go_ret
                  exact ⟨rfl, B3.out⟩
                · have hni : ((n1 : Int) != (n2 : Int) + 1) = false := by rw [bne_eq_false_iff_eq]; omega
                  have ha6 : a.size ≤ 65000 := by omega
                  have hz1 : ax.size ≤ 65000 := by rw [← hax, ByteArray.size_append]; show a.size + 2 ≤ 65000; omega
                  have r0 : ∀ w, (Op.stringOp .add a ⟨#[44, 120]⟩).run Tryz.prog w = .ok (.string ax) w := fun w => by
                    have := run_string_add_sum (P := Tryz.prog) w a ⟨#[44, 120]⟩ (by show a.size + 2 ≤ 9223372036854775807; omega)
                    rw [hax] at this; exact this
                  have ZX := box (fitC_keep hq1)
                  have FL := box (fit_keepF hq3)
                  obtain ⟨i, rfl⟩ : ∃ i : Nat, z = i := ⟨z.toNat, by omega⟩
                  have hi0 : (0 : Int) ≤ (i : Int) := by omega
                  have hinx : (i : Int) < (nx : Int) := by omega
                  have hiX : i < X.length := by have := HNX.out; omega
                  have hal : a.size ≤ 200 := by omega
                  have hbl : b.size ≤ 200 := by omega
                  have he := ends_open (a := a.data.toList) (by rw [hn1, hn2]; omega)
                  obtain ⟨g, off, v, hp, f0, _, _, _, _, _, _⟩ := hX.out.1 i hiX
                  subst hp
                  obtain ⟨y1, _, _⟩ := (keepA_parts hq1).2 i hiX
                  obtain ⟨n, hn⟩ : ∃ n, X[i].1 = n := ⟨_, rfl⟩
                  rw [hn] at f0 y1
                  obtain ⟨k, hk⟩ : ∃ k, kindN n = k := ⟨_, rfl⟩
                  have HK := box hk
                  have hki : InI64 k := by rw [← hk]; exact kindN_i64 n
                  obtain ⟨mk, hmk⟩ : ∃ mk, nameK k = mk := ⟨_, rfl⟩
                  have HMK := box hmk
                  have hmz : mk.size ≤ 100 := by rw [← hmk]; exact nameK_size k
                  have HMF : Box (k ≠ 0 → foldL mk.data.toList n.data.toList = true) := box (fun h => by rw [fold_symm, ← hmk, ← hk]; exact kind_fold (by rw [hk]; exact h))
                  have hn4 : n.size ≤ 4294967296 := by omega
                  have hn65 : Box (n.size ≤ 65536) := box (by omega)
                  obtain ⟨t1, ht1⟩ : ∃ t, (⟨#[9]⟩ : ByteArray) ++ a = t := ⟨_, rfl⟩
                  obtain ⟨t2, ht2⟩ : ∃ t, t1 ++ (⟨#[32, 44, 32]⟩ : ByteArray) = t := ⟨_, rfl⟩
                  obtain ⟨t3, ht3⟩ : ∃ t, t2 ++ b = t := ⟨_, rfl⟩
                  obtain ⟨t, ht⟩ : ∃ t, t3 ++ (⟨#[32]⟩ : ByteArray) = t := ⟨_, rfl⟩
                  have s1 : t1.size = 1 + a.size := by rw [← ht1, ByteArray.size_append]; rfl
                  have s2 : t2.size = 4 + a.size := by rw [← ht2, ByteArray.size_append, s1]; show 1 + a.size + 3 = _; omega
                  have s3 : t3.size = 4 + a.size + b.size := by rw [← ht3, ByteArray.size_append, s2]
                  have s4 : t.size = 5 + a.size + b.size := by rw [← ht, ByteArray.size_append, s3]; show 4 + a.size + b.size + 1 = _; omega
                  have r1 : ∀ w, (Op.stringOp .add ⟨#[9]⟩ a).run Tryz.prog w = .ok (.string t1) w := fun w => by
                    have := run_string_add_sum (P := Tryz.prog) w ⟨#[9]⟩ a (by show 1 + a.size ≤ 9223372036854775807; omega)
                    rw [ht1] at this; exact this
                  have r2 : ∀ w, (Op.stringOp .add t1 ⟨#[32, 44, 32]⟩).run Tryz.prog w = .ok (.string t2) w := fun w => by
                    have := run_string_add_sum (P := Tryz.prog) w t1 ⟨#[32, 44, 32]⟩ (by show t1.size + 3 ≤ 9223372036854775807; omega)
                    rw [ht2] at this; exact this
                  have r3 : ∀ w, (Op.stringOp .add t2 b).run Tryz.prog w = .ok (.string t3) w := fun w => by
                    have := run_string_add_sum (P := Tryz.prog) w t2 b (by omega)
                    rw [ht3] at this; exact this
                  have r4 : ∀ w, (Op.stringOp .add t3 ⟨#[32]⟩).run Tryz.prog w = .ok (.string t) w := fun w => by
                    have := run_string_add_sum (P := Tryz.prog) w t3 ⟨#[32]⟩ (by show t3.size + 1 ≤ 9223372036854775807; omega)
                    rw [ht] at this; exact this
                  have htl : t.data.toList = textQ a.data.toList b.data.toList := by
                    rw [← ht, ← ht3, ← ht2, ← ht1]; unfold textQ; simp [ByteArray.data_append]
                  have HSM0 := box (fun m hm => lines_same (st := st) (L := L) (n := n) (m := m) (b := b) hq2 he htl hm)
                  obtain ⟨M, hM⟩ : ∃ M, remL n L = M := ⟨_, rfl⟩
                  have HM := box hM
                  obtain ⟨M1, M2⟩ := rem_small18 (n := n) hq3
                  rw [hM] at M1 M2
                  have hm6 : M.length ≤ 65536 := by omega
                  have FP : Box (FitL (M ++ [(n, a), (n, b)])) := box (fit_two18 M1 M2 (by omega) (by omega) (by omega))
                  have FQ0 : Box (∀ m : ByteArray, m.size ≤ 100 → FitL ((m, t) :: M)) := box (fun m h => fit_cons18 M1 M2 (by omega) (by omega))
                  have HSM1 : Box (∀ m : ByteArray, foldL m.data.toList n.data.toList = true → sameC X (M ++ [(n, a), (n, b)]) ((m, t) :: M) st = true) := box (fun m hm => by rw [← hM]; exact HSM0.out m hm)
                  have c0w := box f0
                  have hnz : n.size ≤ 100 := y1
                  clear hq1 hq2 hq3 hW hn hk hmk ht1 ht2 ht3 ht htl he hM M1 M2 f0 hn1 hn2 hax y1
                  go_enter Tryz.func6, Tryz.ntmps6
                  go_wp2_with fail
                  refine (keepA17_is hx0.out hX.out Q1 HNX).mono ?_; rintro e w1 ⟨rfl, rfl⟩
                  go_wp2_with fail
                  refine (rValid17_is x6 FX hX.out.1 Q2 HNX).mono ?_; rintro e w1 ⟨rfl, hb1⟩
                  have B1 := box hb1
                  clear hb1
                  go_wp2_with fail
                  refine (keepF17_is hl0.out (hF.out.below B1.out) Q3 HNL).mono ?_; rintro e w2 ⟨rfl, rfl⟩
                  go_wp2_with fail
                  refine (rSplitLen_is hz1 H1).mono ?_; rintro e w2 ⟨p2, c2, rfl, hb2⟩
                  have B2 := box (B1.out.trans (hb2.mono B1.out.size))
                  clear hb2
                  go_wp2_with fail
                  refine (rSplitLen_is ha6 H2).mono ?_; rintro e w3 ⟨p3, c3, rfl, hb3⟩
                  have B3 := box (B2.out.trans (hb3.mono B2.out.size))
                  clear hb3
                  have c0 := (B3.out.cell (cell_lt c0w.out)).trans c0w.out
                  have F3 := box (hF.out.below B3.out)
                  have hs3 := B3.out.size
                  go_wp2_with fail
                  refine (rRem18_is FL hn65 F3.out HM HNL).mono ?_; rintro e w4 ⟨v4, rfl, hO4, hb4⟩
                  obtain ⟨a4, c4, rfl, hS4, hn4c, _⟩ := hO4.fs2
                  have S4 := box hS4
                  have HN4 := box hn4c
                  have B4 := box (B3.out.trans (hb4.mono hs3))
                  have hs4 := B4.out.size
                  obtain ⟨m0, hm0⟩ : ∃ m0, M.length = m0 := ⟨_, rfl⟩
                  have HM0 := box hm0
                  rw [hm0]
                  clear hO4 hS4 hn4c hb4 c0 hm0
                  have BZ := box (Below.refl w4.heap.size w4)
                  go_wp2_with (first | (at_builtin; refine wpList_append_flds17 _ rfl (.const (.slice none 0 0)) (.tmp 68) rfl w4.heap.size (.slice none 0 0) [] M rfl (OwnF.nil _ _) a4 m0 c4 rfl HM0.out HN4.out S4.out (Nat.zero_le _) hm6 (Nat.le_refl _) ?_; intro v5 w5 hO5 hb5; have O5 := box hO5; have hs45 := hb5.size; have HB5 := box hb5; clear hO5 hb5) | (at_builtin; refine wpList_append_flds17 _ rfl (.tmp 69) (.tmp 76) rfl w4.heap.size v5 M [(n, a), (n, b)] rfl (own_below O5.out (below_new _ _)) (some ⟨w5.heap.size, 0, none⟩) 2 2 rfl rfl (fun h => by cases h) (fs_two13 n a n b w5 42) hm6 (by simp) (Nat.le_trans hs45 (below_new _ _).size) ?_; intro v6 w6 hO6 hb6; obtain ⟨a6, c6, rfl, hS6, _⟩ := OwnF.fs hO6; have SP := box hS6; have B46 := box (HB5.out.trans (((below_new w5 (.cells #[.string n, .string a, .string n, .string b] 42)).mono hs45).trans hb6)); clear hO6 hb6 hS6))
                  have B6 := box (B4.out.trans (B46.out.mono hs4))
                  have hs6 := B6.out.size
                  refine (rKind15_is hn4 HK).mono ?_; rintro e w7 ⟨rfl, hb7⟩
                  have B67 := box hb7
                  have B7 := box (B6.out.trans (hb7.mono hs6))
                  have hs7 := B7.out.size
                  have hs67 := hb7.size
                  have S7 := box ((S4.out.below B46.out).below hb7)
                  clear hb7
                  go_wp2_with fail
                  refine (rName_is hki HMK).mono ?_; rintro e w8 ⟨rfl, rfl⟩
                  go_wp2_with (at_builtin; refine wpList_append_flds17 _ rfl (.tmp 88) (.tmp 89) rfl w7.heap.size (.slice (some ⟨w7.heap.size, 0, none⟩) 1 1) [(mk, t)] M rfl ?a8 a4 m0 c4 rfl HM0.out HN4.out ?b8 ?c8 hm6 ?d8 ?_)
                  case a8 => exact OwnF.one18 (Nat.le_refl _) mk t
                  case b8 => exact S7.out.below (below_new _ _)
                  case c8 => simp
                  case d8 => exact (below_new _ _).size
                  intro v9 w9 hO9 hb9
                  have hO9b : OwnF w9 w7.heap.size v9 ((mk, t) :: M) := hO9
                  obtain ⟨g9, c9, rfl, hg9, hc9, hR9⟩ := hO9b.row (by simp)
                  have B79 := box ((below_new w7 (.cells #[.string mk, .string t] 42)).trans hb9)
                  have B9 := box (B7.out.trans (B79.out.mono hs7))
                  have hs9 := B9.out.size
                  have B69 := box (B67.out.trans (B79.out.mono hs67))
                  have R9 := box hR9
                  have hg9s : g9 < w9.heap.size := hR9.lt (by simp)
                  obtain ⟨mq, hmq⟩ : ∃ mq, ((mk, t) :: M).length = mq := ⟨_, rfl⟩
                  have HMQ := box hmq
                  have hmq0 : (0 : Int) < (mq : Int) := by rw [← hmq]; simp only [List.length_cons]; omega
                  rw [hmq]
                  clear hO9 hO9b hb9 hR9 hmq
                  go_wp2_with fail
                  refine (rKind15_is hn4 HK).mono ?_; rintro e w10 ⟨rfl, hb10⟩
                  have B10 := box (B9.out.trans (hb10.mono hs9))
                  have B610 := box (B69.out.trans (hb10.mono B69.out.size))
                  have R10 := box (R9.out.below hb10 hg9s)
                  clear hb10
                  have HPL : Box ((M ++ [(n, a), (n, b)]).length = M.length + 2) := box (by simp)
                  by_cases hk0 : k = 0
                  · have hkb : (k == 0) = true := by simp [hk0]
                    have f9 : w10.frozen? ⟨g9, 0, none⟩ = false := (R10.out 0 (by simp)).2.1
                    have e9 : w10.cell? ⟨g9, 0, none⟩ = some (.string mk) := (R10.out 0 (by simp)).1.1
                    have R11 : Box (FsO (w10.setCell ⟨g9, 0, none⟩ (.string n)) g9 ((n, t) :: M)) := box (R10.out.set1 (k := 0) (by simp) n)
                    have hg9w : w.heap.size ≤ g9 := Nat.le_trans hs7 hg9
                    have hg96 : w6.heap.size ≤ g9 := Nat.le_trans hs67 hg9
                    have B11 : Box (Below w.heap.size w (w10.setCell ⟨g9, 0, none⟩ (.string n))) := box (B10.out.setCell (p := ⟨g9, 0, none⟩) hg9w _)
                    have B611 : Box (Below w6.heap.size w6 (w10.setCell ⟨g9, 0, none⟩ (.string n))) := box (B610.out.setCell (p := ⟨g9, 0, none⟩) hg96 _)
                    have HSM := box (HSM1.out n (fold_self _))
                    have FQ := box (FQ0.out n hnz)
                    have HQL : Box (((n, t) :: M).length = mq) := box (by rw [← HMQ.out]; simp)
                    clear hk0
                    go_wp2_with fail
                    refine (mSame18_is x6 ZX FP FQ (hX.out.1.below B11.out) (SP.out.below B611.out) R11.out.fs (HT.out.below B11.out) HSM HNX HPL HQL).mono ?_; rintro e wa ⟨rfl, hba⟩
                    have BA := box (B11.out.trans (hba.mono B11.out.size))
                    clear hba
                    go_wp2_with fail
                    refine (awake18_any _ (HT.out.below BA.out)).mono ?_; rintro e wb ⟨rfl, hbb⟩
                    have BB := box (BA.out.trans (hbb.mono BA.out.size))
                    clear hbb
                    go_wp2
                    go_ret
                    exact ⟨rfl, BB.out⟩
                  · have hkb : (k == 0) = false := by simp [hk0]
                    have HSM := box (HSM1.out mk (HMF.out hk0))
                    have FQ := box (FQ0.out mk hmz)
                    have HQL : Box (((mk, t) :: M).length = mq) := HMQ
                    clear hk0
                    go_wp2_with fail
                    refine (mSame18_is x6 ZX FP FQ (hX.out.1.below B10.out) (SP.out.below B610.out) R10.out.fs (HT.out.below B10.out) HSM HNX HPL HQL).mono ?_; rintro e wa ⟨rfl, hba⟩
                    have BA := box (B10.out.trans (hba.mono B10.out.size))
                    clear hba
                    go_wp2_with fail
                    refine (awake18_any _ (HT.out.below BA.out)).mono ?_; rintro e wb ⟨rfl, hbb⟩
                    have BB := box (BA.out.trans (hbb.mono BA.out.size))
                    clear hbb
                    go_wp2
                    go_ret
                    exact ⟨rfl, BB.out⟩
theorem lines18_walk (p : Option Addr) (cp : Nat) (X : List AX) (ad : Option Addr) (ca : Nat) (L : List F) (z : Int) (a b : ByteArray) (st : Bool) (w : World) (hx0 : X.length ≤ maxLen) (hX : Axs w p X ∧ ∀ i (hi : i < X.length), X[i].2.length ≤ maxLen) (hcx : X.length ≤ cp) (hl0 : L.length ≤ maxLen) (hF : Fs w ad L) (hcl : L.length ≤ ca) (hz : (Lit.int .i64 z).wf = true) (ha : a.size ≤ maxLen) (hb : b.size ≤ maxLen) (hW : Wts w) :
    Calls Tryz.prog 6 #[.slice p X.length cp, .slice ad L.length ca, .int .i64 z, .string a, .string b, .bool st] w fun e w' => e = .returned (.bool true) ∧ Below w.heap.size w w' :=
  lines18_in p cp _ X ad ca _ L z a b st w (box hx0) (box hX) (box hl0) (box hF) (in13 hz) hW (box rfl) (box rfl)
end
section
open Go.RowKit
def CsNil (W : World) (i : Value) (wr : World) : Prop := i = .int .i64 0 ∧ wr = W
def CsRel (L : List F) (g : Nat) (W : World) (i : Value) (wr : World) : Prop := ∃ j : Nat, j ≤ L.length ∧ i = .int .i64 j ∧ Box (FsO wr g (caseN L j)) ∧ Box (Below W.heap.size W wr)
set_option maxHeartbeats 8000000 in
theorem cases18_in (p : Option Addr) (cp nx : Nat) (X : List AX) (a : Option Addr) (ca nl : Nat) (L : List F) (st : Bool) (w : World) (hx0 : Box (X.length ≤ maxLen)) (hX : Box (Axs w p X ∧ ∀ i (hi : i < X.length), X[i].2.length ≤ maxLen)) (hl0 : Box (L.length ≤ maxLen)) (hF : Box (Fs w a L)) (hcn : Box (a = none → ca = 0)) (hW : Wts w) (HNX : Box (X.length = nx)) (HNL : Box (L.length = nl)) :
    Calls Tryz.prog 7 #[.slice p nx cp, .slice a nl ca, .bool st] w fun e w' => e = .returned (.bool true) ∧ Below w.heap.size w w' := by
  have HT := box hW
  obtain ⟨q1, hq1⟩ : ∃ q, keepA X = q := ⟨_, rfl⟩
  obtain ⟨q2, hq2⟩ : ∃ q, validX X = q := ⟨_, rfl⟩
  obtain ⟨q3, hq3⟩ : ∃ q, keepF L = q := ⟨_, rfl⟩
  have Q1 := box hq1
  have Q2 := box hq2
  have Q3 := box hq3
  cases q1 with
  | false =>
    clear hq1 hq2 hq3 hW
    go_enter Tryz.func7, Tryz.ntmps7
    go_wp2_with fail
    refine (keepA17_is hx0.out hX.out Q1 HNX).mono ?_; rintro e w1 ⟨rfl, rfl⟩
    go_wp2
    go_ret
    exact ⟨rfl, Below.refl _ _⟩
  | true =>
    have x6 : X.length ≤ 65536 := by have := (keep_fit hq1).1; omega
    have FX := box (fit_keepA hq1)
    cases q2 with
    | false =>
      clear hq1 hq2 hq3 hW
      go_enter Tryz.func7, Tryz.ntmps7
      go_wp2_with fail
      refine (keepA17_is hx0.out hX.out Q1 HNX).mono ?_; rintro e w1 ⟨rfl, rfl⟩
      go_wp2_with fail
      refine (rValid17_is x6 FX hX.out.1 Q2 HNX).mono ?_; rintro e w1 ⟨rfl, hb1⟩
      have B1 := box hb1
      clear hb1
      go_wp2
      go_ret
      exact ⟨rfl, B1.out⟩
    | true =>
      cases q3 with
      | false =>
        clear hq1 hq2 hq3 hW
        go_enter Tryz.func7, Tryz.ntmps7
        go_wp2_with fail
        refine (keepA17_is hx0.out hX.out Q1 HNX).mono ?_; rintro e w1 ⟨rfl, rfl⟩
        go_wp2_with fail
        refine (rValid17_is x6 FX hX.out.1 Q2 HNX).mono ?_; rintro e w1 ⟨rfl, hb1⟩
        have B1 := box hb1
        clear hb1
        go_wp2_with fail
        refine (keepF17_is hl0.out (hF.out.below B1.out) Q3 HNL).mono ?_; rintro e w2 ⟨rfl, rfl⟩
        go_wp2
        go_ret
        exact ⟨rfl, B1.out⟩
      | true =>
        have ZX := box (fitC_keep hq1)
        have FL := box (fit_keepF hq3)
        have l6 : L.length ≤ 65536 := FL.out.1.1
        have FM : Box (FitL (L.map lowF)) := box (low_fit hq3)
        have HSM : Box (sameC X L (L.map lowF) st = true) := box (cases_same hq2)
        have HLZ : Box (∀ i (hi : i < L.length), L[i].1.size ≤ 300 ∧ L[i].2.size ≤ 300) := box (keep_parts hq3).2
        clear hq1 hq2 hq3 hW
        go_enter Tryz.func7, Tryz.ntmps7
        go_wp2_with fail
        refine (keepA17_is hx0.out hX.out Q1 HNX).mono ?_; rintro e w1 ⟨rfl, rfl⟩
        go_wp2_with fail
        refine (rValid17_is x6 FX hX.out.1 Q2 HNX).mono ?_; rintro e w1 ⟨rfl, hb1⟩
        have B1 := box hb1
        clear hb1
        go_wp2_with fail
        refine (keepF17_is hl0.out (hF.out.below B1.out) Q3 HNL).mono ?_; rintro e w2 ⟨rfl, rfl⟩
        have hs1 := B1.out.size
        have F1 := box (hF.out.below B1.out)
        go_wp2_with (at_builtin; refine wpList_append_flds17 _ rfl (.const (.slice none 0 0)) (.tmp 23) rfl w.heap.size (.slice none 0 0) [] L rfl ?a2 a nl ca rfl HNL.out hcn.out ?b2 ?c2 l6 ?d2 ?_)
        case a2 => exact OwnF.nil _ _
        case b2 => exact F1.out
        case c2 => simp
        case d2 => exact hs1
        intro v3 w3 hO3 hb3
        have B3 := box (B1.out.trans hb3)
        clear hb3
        by_cases h0 : L = []
        · obtain ⟨a3, c3, rfl, hS3, _⟩ := OwnF.fs hO3
          have S3 := box hS3
          have HL0 : Box (nl = 0) := box (by rw [← HNL.out, h0]; rfl)
          have hll : L.length = nl := HNL.out
          have HM0 : Box ((L.map lowF).length = nl) := box (by rw [List.length_map]; exact HNL.out)
          have SM : Box (Fs w3 a3 (L.map lowF)) := box (by rw [h0]; exact Fs.nil17 _ _)
          have hn0 : ¬ (0 : Int) < (nl : Int) := by have := HL0.out; omega
          clear hO3 hS3 h0
          rw [hll]
          have HLL := box hll
          clear hll
          go_wp2
          go_loopw [8] (fun i wr => CsNil w3 i wr) (fun i _ => 0)
          case atStart => exact ⟨rfl, rfl⟩
          case round =>
            obtain ⟨rfl, rfl⟩ := hrel
            have B5 := B3
            go_wp2_with fail
            refine (mSame18_is x6 ZX FL FM (hX.out.1.below B5.out) (hF.out.below B5.out) SM.out (HT.out.below B5.out) HSM HNX HNL HM0).mono ?_; rintro e w6 ⟨rfl, hb6⟩
            have B6 := box (B5.out.trans (hb6.mono B5.out.size))
            clear hb6
            go_wp2_with fail
            refine (awake18_any _ (HT.out.below B6.out)).mono ?_; rintro e w7 ⟨rfl, hb7⟩
            have B7 := box (B6.out.trans (hb7.mono B6.out.size))
            clear hb7
            go_wp2
            go_ret
            exact ⟨rfl, B7.out⟩
        · obtain ⟨g, c, rfl, hgB, hgc, hR3⟩ := hO3.row h0
          have hll : L.length = nl := HNL.out
          have HM0 : Box ((L.map lowF).length = nl) := box (by rw [List.length_map]; exact HNL.out)
          have R3 : Box (FsO w3 g (caseN L 0)) := box (by rw [caseN_zero]; exact hR3)
          have H0 := box h0
          clear hO3 hR3 h0
          rw [hll]
          have HLL := box hll
          clear hll
          go_wp2
          go_loopw [8] (fun i wr => CsRel L g w i wr) (fun i _ => nl - (intOf i).toNat)
          case atStart => exact ⟨0, Nat.zero_le _, rfl, R3, B3⟩
          case round =>
            obtain ⟨ws, rfl⟩ : ∃ ws, ws = wr := ⟨_, rfl⟩
            obtain ⟨j, hj, rfl, R5, B5⟩ := hrel
            have hs5 := B5.out.size
            by_cases hlt : j < nl
            · have hji : (j : Int) < (nl : Int) := by omega
              have hj0 : (0 : Int) ≤ (j : Int) := by omega
              have hjL : j < L.length := by have := HLL.out; omega
              have hjN : j < (caseN L j).length := by rw [caseN_len]; exact hjL
              have hgs : g < ws.heap.size := cell_lt (R5.out j hjN).1.1
              obtain ⟨n, hn⟩ : ∃ n, L[j].1 = n := ⟨_, rfl⟩
              obtain ⟨x, hx⟩ : ∃ x, L[j].2 = x := ⟨_, rfl⟩
              obtain ⟨k, hk⟩ : ∃ k, kindN n = k := ⟨_, rfl⟩
              have HK := box hk
              have hnz := (HLZ.out j hjL).1
              have hxz := (HLZ.out j hjL).2
              rw [hn] at hnz
              rw [hx] at hxz
              have hn4 : n.size ≤ 4294967296 := by omega
              have hx4 : x.size ≤ 4294967296 := by omega
              obtain ⟨⟨c0, c1⟩, _, _⟩ := R5.out j hjN
              rw [caseN_at hjL hjN, hn] at c0
              rw [caseN_at hjL hjN, hx] at c1
              obtain ⟨y, hy⟩ : ∃ y, bs (lowL x.data.toList) = y := ⟨_, rfl⟩
              have HY := box hy
              have HSM0 : Box (k = 0 → caseN L (j + 1) = caseN L j) := box (fun h => caseN_same hjL (by rw [hn, hk]; exact h))
              have HST : Box (k ≠ 0 → caseN L (j + 1) = (caseN L j).set j ((caseN L j)[j].1, y)) := box (fun h => by
                rw [caseN_next hjL]
                congr 1
                rw [caseN_at hjL hjN]
                unfold lowF
                rw [if_pos (by rw [hn, hk]; exact h), hx, hy])
              clear hn hx hk hy
              go_wp2_with fail
              refine (rKind15_is hn4 HK).mono ?_; rintro e w6 ⟨rfl, hb6⟩
              have B6 := box (B5.out.trans (hb6.mono hs5))
              have hs6 := B6.out.size
              have R6 := box (R5.out.below hb6 hgs)
              have e1 := (hb6.cell (cell_lt c1)).trans c1
              have hgs6 : g < w6.heap.size := Nat.lt_of_lt_of_le hgs hb6.size
              clear hb6 c0 c1
              by_cases hk0 : k = 0
              · have hkb : (k != 0) = false := by simp [hk0]
                have HN := box (HSM0.out hk0)
                clear hk0
                go_wp2
                go_roundw
                case rel => exact ⟨j + 1, by have := HLL.out; omega, by go_num, box (by rw [HN.out]; exact R6.out), B6⟩
                case measure => simp [intOf]; omega
              · have hkb : (k != 0) = true := by simp [hk0]
                have HN := box (HST.out hk0)
                clear hk0
                go_wp2_with fail
                refine (rLower9_is hx4 HY).mono ?_; rintro e w7 ⟨rfl, hb7⟩
                have B7 := box (B6.out.trans (hb7.mono hs6))
                have R7 := box (R6.out.below hb7 hgs6)
                have f1 := (R7.out j hjN).2.2
                have d1 := (R7.out j hjN).1.2
                have R8 : Box (FsO (w7.setCell ⟨g, j * 2 + 1, none⟩ (.string y)) g (caseN L (j + 1))) := box (by rw [HN.out]; exact R7.out.set2 hjN y)
                have B8 : Box (Below w.heap.size w (w7.setCell ⟨g, j * 2 + 1, none⟩ (.string y))) := box (B7.out.setCell (p := ⟨g, j * 2 + 1, none⟩) hgB _)
                clear hb7 e1
                go_wp2
                go_roundw
                case rel => exact ⟨j + 1, by have := HLL.out; omega, by go_num, R8, B8⟩
                case measure => simp [intOf]; omega
            · have hji : ¬ (j : Int) < (nl : Int) := by omega
              have R9 : Box (FsO ws g (L.map lowF)) := box (by have := R5.out; rwa [show j = L.length from by have := HLL.out; omega, caseN_all] at this)
              go_wp2_with fail
              refine (mSame18_is x6 ZX FL FM (hX.out.1.below B5.out) (hF.out.below B5.out) R9.out.fs (HT.out.below B5.out) HSM HNX HNL HM0).mono ?_; rintro e w6 ⟨rfl, hb6⟩
              have B6 := box (B5.out.trans (hb6.mono B5.out.size))
              clear hb6
              go_wp2_with fail
              refine (awake18_any _ (HT.out.below B6.out)).mono ?_; rintro e w7 ⟨rfl, hb7⟩
              have B7 := box (B6.out.trans (hb7.mono B6.out.size))
              clear hb7
              go_wp2
              go_ret
              exact ⟨rfl, B7.out⟩
theorem cases18_walk (p : Option Addr) (cp : Nat) (X : List AX) (a : Option Addr) (ca : Nat) (L : List F) (st : Bool) (w : World) (hx0 : X.length ≤ maxLen) (hX : Axs w p X ∧ ∀ i (hi : i < X.length), X[i].2.length ≤ maxLen) (hcx : X.length ≤ cp) (hl0 : L.length ≤ maxLen) (hF : Fs w a L) (hcl : L.length ≤ ca ∧ (a = none → ca = 0)) (hW : Wts w) :
    Calls Tryz.prog 7 #[.slice p X.length cp, .slice a L.length ca, .bool st] w fun e w' => e = .returned (.bool true) ∧ Below w.heap.size w w' :=
  cases18_in p cp _ X a ca _ L st w (box hx0) (box hX) (box hl0) (box hF) (box hcl.2) hW (box rfl) (box rfl)
end
end Go.Proofs.YtklfpkaemnhdhaaGreatDoor.Asc
