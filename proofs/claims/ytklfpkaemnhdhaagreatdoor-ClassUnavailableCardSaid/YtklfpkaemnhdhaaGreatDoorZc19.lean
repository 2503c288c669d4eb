/- Merged texts: ClsLaws5. -/
import Derived.Test.YtklfpkaemnhdhaaGreatDoorZc11
import Derived.Test.YtklfpkaemnhdhaaGreatDoorZc16
import Derived.Test.YtklfpkaemnhdhaaGreatDoorZc18
import Derived.Deep.Cut
set_option linter.unusedVariables false
set_option linter.unusedSimpArgs false
set_option maxRecDepth 100000
namespace Go.Proofs.YtklfpkaemnhdhaaGreatDoor.Asc
section
open Go.RowKit
theorem two_set18 {w : World} {G : Nat} {a b : Value} {n x : ByteArray} (k0 : w.cell? ⟨G, 0, none⟩ = some a) (k1 : w.cell? ⟨G, 1, none⟩ = some b) :
    ((w.setCell ⟨G, 0, none⟩ (.string n)).setCell ⟨G, 1, none⟩ (.string x)).cell? ⟨G, 0, none⟩ = some (.string n) ∧ ((w.setCell ⟨G, 0, none⟩ (.string n)).setCell ⟨G, 1, none⟩ (.string x)).cell? ⟨G, 1, none⟩ = some (.string x) := by
  have h1 : (w.setCell ⟨G, 0, none⟩ (.string n)).cell? ⟨G, 1, none⟩ = some b := by rw [World.cell?_setCell_other _ _ _ _ (addr_ne (by omega))]; exact k1
  exact ⟨by rw [World.cell?_setCell_other _ _ _ _ (addr_ne (by omega)), World.cell?_setCell_same (h := k0)], by rw [World.cell?_setCell_same (h := h1)]⟩
def UnRel (V : List ByteArray) (P : List QP) (k : Int) (W : World) (i : Value) (wr : World) : Prop :=
  ∃ j : Nat, j ≤ V.length ∧ i = .int .i64 j ∧ (∀ a (h : a < V.length), a < j → ∀ p ∈ P, matchP k p.1.data.toList V[a].data.toList < 0) ∧ Box (Below W.heap.size W wr)
def UmRel (P : List QP) (k : Int) (v : ByteArray) (W : World) (i : Value) (wr : World) : Prop :=
  ∃ m : Nat, m ≤ P.length ∧ i = .int .i64 m ∧ (∀ b (h : b < P.length), b < m → matchP k P[b].1.data.toList v.data.toList < 0) ∧ Box (Below W.heap.size W wr)
theorem um_more {P : List QP} {k mt : Int} {v rr : ByteArray} {m : Nat} (h : ∀ b (h : b < P.length), b < m → matchP k P[b].1.data.toList v.data.toList < 0) (hm : m < P.length) (hr : P[m].1 = rr) (ht : matchP k rr.data.toList v.data.toList = mt) (hge : ¬ 0 ≤ mt) :
    ∀ b (h : b < P.length), b < m + 1 → matchP k P[b].1.data.toList v.data.toList < 0 := fun b hb hbm => by
  by_cases e : b = m
  · subst e; rw [hr, ht]; omega
  · exact h b hb (by omega)
theorem um_all {V : List ByteArray} {P : List QP} {k : Int} {v : ByteArray} {m j : Nat} (h : ∀ b (h : b < P.length), b < m → matchP k P[b].1.data.toList v.data.toList < 0) (hm : ¬ m < P.length) (hjV0 : j < V.length) (hv : V[j] = v)
    (h2 : ∀ a (h : a < V.length), a < j → ∀ p ∈ P, matchP k p.1.data.toList V[a].data.toList < 0) : ∀ a (h : a < V.length), a < j + 1 → ∀ p ∈ P, matchP k p.1.data.toList V[a].data.toList < 0 := fun a ha haj p hp => by
  by_cases e : a = j
  · subst e
    rw [hv]
    obtain ⟨b, hb, rfl⟩ := List.getElem_of_mem hp
    exact h b hb (by omega)
  · exact h2 a ha (by omega) p hp
theorem un_all {V : List ByteArray} {P : List QP} {k : Int} {j : Nat} (h2 : ∀ a (h : a < V.length), a < j → ∀ p ∈ P, matchP k p.1.data.toList V[a].data.toList < 0) (hj : V.length ≤ j) : ∀ p ∈ P, ∀ v ∈ V, matchP k p.1.data.toList v.data.toList < 0 := fun p hp v hv => by
  obtain ⟨a, ha, rfl⟩ := List.getElem_of_mem hv
  exact h2 a ha (by omega) p hp
theorem fit_app18 {L : List F} {n x : ByteArray} (h : keepF L = true) (hn : n.size ≤ 9000) (hx : x.size ≤ 9000) : FitL (L ++ [(n, x)]) := by
  obtain ⟨l1, l2⟩ := keep_parts h
  refine fit_mem18 (by rw [List.length_append]; simp only [List.length_cons, List.length_nil]; omega) (fun p hp => ?_)
  rcases List.mem_append.1 hp with h | h
  · obtain ⟨i, hi, rfl⟩ := List.getElem_of_mem h
    have := l2 i hi; omega
  · rw [List.mem_singleton.1 h]; exact ⟨hn, hx⟩
theorem fit_app19 {L : List F} {n x : ByteArray} (h : keepF L = true) (hn : n.size ≤ 9000) (hx : x.size ≤ 9000) : FitL ((n, x) :: L) := by
  obtain ⟨l1, l2⟩ := keep_parts h
  refine fit_mem18 (by rw [List.length_cons]; omega) (fun p hp => ?_)
  rcases List.mem_cons.1 hp with rfl | h
  · exact ⟨hn, hx⟩
  · obtain ⟨i, hi, rfl⟩ := List.getElem_of_mem h
    have := l2 i hi; omega
set_option maxHeartbeats 16000000 in
theorem unavail18_in (p : Option Addr) (cp nx : Nat) (X : List AX) (a : Option Addr) (ca nl : Nat) (L : List F) (z : Int) (r : ByteArray) (q : Int) (fi st : Bool) (w : World) (hx0 : Box (X.length ≤ maxLen)) (hX : Box (Axs w p X ∧ ∀ i (hi : i < X.length), X[i].2.length ≤ maxLen)) (hl0 : Box (L.length ≤ maxLen)) (hF : Box (Fs w a L)) (hcn : Box (a = none → ca = 0)) (hz : InI64 z) (hqw : InI64 q) (hW : Wts w) (HNX : Box (X.length = nx)) (HNL : Box (L.length = nl)) :
    Calls Tryz.prog 8 #[.slice p nx cp, .slice a nl ca, .int .i64 z, .string r, .int .i64 q, .bool fi, .bool st] w fun e w' => e = .returned (.bool true) ∧ Below w.heap.size w w' := by
  have HT := box hW
  obtain ⟨q1, hq1⟩ : ∃ q, keepA X = q := ⟨_, rfl⟩
  obtain ⟨q2, hq2⟩ : ∃ q, validX X = q := ⟨_, rfl⟩
  obtain ⟨q3, hq3⟩ : ∃ q, keepF L = q := ⟨_, rfl⟩
  have Q1 := box hq1
  have Q2 := box hq2
  have Q3 := box hq3
  obtain ⟨m1, hm1⟩ : ∃ n, (splitL r.data.toList).length = n := ⟨_, rfl⟩
  obtain ⟨m2, hm2⟩ : ∃ n, (splitL (r.data.toList ++ [44, 120])).length = n := ⟨_, rfl⟩
  obtain ⟨rx, hrx⟩ : ∃ rx, r ++ (⟨#[44, 120]⟩ : ByteArray) = rx := ⟨_, rfl⟩
  have H1 := box hm1
  have H2 : Box ((splitL rx.data.toList).length = m2) := box (by rw [← hrx, ← hm2]; simp [ByteArray.data_append])
  cases q1 with
  | false =>
    clear hq1 hq2 hq3 hW
    go_enter Tryz.func8, Tryz.ntmps8
    go_wp2_with fail
    refine (keepA17_is hx0.out hX.out Q1 HNX).mono ?_; rintro e w1 ⟨rfl, rfl⟩
    go_wp2
    go_ret
    exact ⟨rfl, Below.refl _ _⟩
  | true =>
    have x6 : X.length ≤ 65536 := by have := (keep_fit hq1).1; omega
    have FX := box (fit_keepA hq1)
    cases q2 with
    | false =>
      clear hq1 hq2 hq3 hW
      go_enter Tryz.func8, Tryz.ntmps8
      go_wp2_with fail
      refine (keepA17_is hx0.out hX.out Q1 HNX).mono ?_; rintro e w1 ⟨rfl, rfl⟩
      go_wp2_with fail
      refine (rValid17_is x6 FX hX.out.1 Q2 HNX).mono ?_; rintro e w1 ⟨rfl, hb1⟩
      have B1 := box hb1
      clear hb1
      go_wp2
      go_ret
      exact ⟨rfl, B1.out⟩
    | true =>
      cases q3 with
      | false =>
        clear hq1 hq2 hq3 hW
        go_enter Tryz.func8, Tryz.ntmps8
        go_wp2_with fail
        refine (keepA17_is hx0.out hX.out Q1 HNX).mono ?_; rintro e w1 ⟨rfl, rfl⟩
        go_wp2_with fail
        refine (rValid17_is x6 FX hX.out.1 Q2 HNX).mono ?_; rintro e w1 ⟨rfl, hb1⟩
        have B1 := box hb1
        clear hb1
        go_wp2_with fail
        refine (keepF17_is hl0.out (hF.out.below B1.out) Q3 HNL).mono ?_; rintro e w2 ⟨rfl, rfl⟩
        go_wp2
        go_ret
        exact ⟨rfl, B1.out⟩
      | true =>
        by_cases hz0 : z < 0
        · clear hq1 hq2 hq3 hW
          go_enter Tryz.func8, Tryz.ntmps8
          go_wp2_with fail
          refine (keepA17_is hx0.out hX.out Q1 HNX).mono ?_; rintro e w1 ⟨rfl, rfl⟩
          go_wp2_with fail
          refine (rValid17_is x6 FX hX.out.1 Q2 HNX).mono ?_; rintro e w1 ⟨rfl, hb1⟩
          have B1 := box hb1
          clear hb1
          go_wp2_with fail
          refine (keepF17_is hl0.out (hF.out.below B1.out) Q3 HNL).mono ?_; rintro e w2 ⟨rfl, rfl⟩
          go_wp2
          go_ret
          exact ⟨rfl, B1.out⟩
        · by_cases hz2 : (nx : Int) ≤ z
          · clear hq1 hq2 hq3 hW
            go_enter Tryz.func8, Tryz.ntmps8
            go_wp2_with fail
            refine (keepA17_is hx0.out hX.out Q1 HNX).mono ?_; rintro e w1 ⟨rfl, rfl⟩
            go_wp2_with fail
            refine (rValid17_is x6 FX hX.out.1 Q2 HNX).mono ?_; rintro e w1 ⟨rfl, hb1⟩
            have B1 := box hb1
            clear hb1
            go_wp2_with fail
            refine (keepF17_is hl0.out (hF.out.below B1.out) Q3 HNL).mono ?_; rintro e w2 ⟨rfl, rfl⟩
            go_wp2
            go_ret
            exact ⟨rfl, B1.out⟩
          · by_cases hr0 : (50 : Int) < (r.size : Int)
            · clear hq1 hq2 hq3 hW
              go_enter Tryz.func8, Tryz.ntmps8
              go_wp2_with fail
              refine (keepA17_is hx0.out hX.out Q1 HNX).mono ?_; rintro e w1 ⟨rfl, rfl⟩
              go_wp2_with fail
              refine (rValid17_is x6 FX hX.out.1 Q2 HNX).mono ?_; rintro e w1 ⟨rfl, hb1⟩
              have B1 := box hb1
              clear hb1
              go_wp2_with fail
              refine (keepF17_is hl0.out (hF.out.below B1.out) Q3 HNL).mono ?_; rintro e w2 ⟨rfl, rfl⟩
              go_wp2
              go_ret
              exact ⟨rfl, B1.out⟩
            · by_cases hq0 : q < 0
              · clear hq1 hq2 hq3 hW
                go_enter Tryz.func8, Tryz.ntmps8
                go_wp2_with fail
                refine (keepA17_is hx0.out hX.out Q1 HNX).mono ?_; rintro e w1 ⟨rfl, rfl⟩
                go_wp2_with fail
                refine (rValid17_is x6 FX hX.out.1 Q2 HNX).mono ?_; rintro e w1 ⟨rfl, hb1⟩
                have B1 := box hb1
                clear hb1
                go_wp2_with fail
                refine (keepF17_is hl0.out (hF.out.below B1.out) Q3 HNL).mono ?_; rintro e w2 ⟨rfl, rfl⟩
                go_wp2
                go_ret
                exact ⟨rfl, B1.out⟩
              · by_cases hq5 : (1000 : Int) < q
                · clear hq1 hq2 hq3 hW
                  go_enter Tryz.func8, Tryz.ntmps8
                  go_wp2_with fail
                  refine (keepA17_is hx0.out hX.out Q1 HNX).mono ?_; rintro e w1 ⟨rfl, rfl⟩
                  go_wp2_with fail
                  refine (rValid17_is x6 FX hX.out.1 Q2 HNX).mono ?_; rintro e w1 ⟨rfl, hb1⟩
                  have B1 := box hb1
                  clear hb1
                  go_wp2_with fail
                  refine (keepF17_is hl0.out (hF.out.below B1.out) Q3 HNL).mono ?_; rintro e w2 ⟨rfl, rfl⟩
                  go_wp2
                  go_ret
                  exact ⟨rfl, B1.out⟩
                · have ZX := box (fitC_keep hq1)
                  have FL := box (fit_keepF hq3)
                  have l6 : L.length ≤ 65536 := FL.out.1.1
                  obtain ⟨i, rfl⟩ : ∃ i : Nat, z = i := ⟨z.toNat, by omega⟩
                  have hi0 : (0 : Int) ≤ (i : Int) := by omega
                  have hinx : (i : Int) < (nx : Int) := by omega
                  have hiX : i < X.length := by have := HNX.out; omega
                  obtain ⟨g, off, vv, hp, f0, f1, b, c, rfl, hss, hcc⟩ := hX.out.1 i hiX
                  subst hp
                  obtain ⟨y1, y4, y5⟩ := (keepA_parts hq1).2 i hiX
                  have hX2 : ∃ X2 : List AX, X2 = X := ⟨_, rfl⟩
                  obtain ⟨n, hn⟩ : ∃ n, X[i].1 = n := ⟨_, rfl⟩
                  obtain ⟨V, hV⟩ : ∃ V, X[i].2 = V := ⟨_, rfl⟩
                  rw [hn] at f0 y1
                  rw [hV] at f1 hss y4 y5
                  obtain ⟨k, hk⟩ : ∃ k, kindN n = k := ⟨_, rfl⟩
                  have HK := box hk
                  have hki : InI64 k := by rw [← hk]; exact kindN_i64 n
                  obtain ⟨nv, hnv⟩ : ∃ nv, V.length = nv := ⟨_, rfl⟩
                  have HNV := box hnv
                  have hnv6 : nv ≤ 65536 := by omega
                  rw [hnv] at f1
                  have hn4 : n.size ≤ 4294967296 := by omega
                  have hn65 : Box (n.size ≤ 65536) := box (by omega)
                  have HVZ : Box (∀ v ∈ V, v.size ≤ 20000) := box (fun v hv => by have := y5 v hv; omega)
                  have c0w := box f0
                  have c1w := box f1
                  have HSS := box hss
                  have HQ2 := box hq2
                  have HKX : Box (kindN X[i].1 = k ∧ X[i].1 = n ∧ X[i].2 = V) := box ⟨by rw [hn]; exact hk, hn, hV⟩
                  obtain ⟨qh, hqh⟩ : ∃ qh, L.any (nmd n) = qh := ⟨_, rfl⟩
                  have HH := box hqh
                  obtain ⟨AL, hal⟩ : ∃ AL, allB n L = AL := ⟨_, rfl⟩
                  have HAL := box hal
                  obtain ⟨an, han⟩ : ∃ an, AL.length = an := ⟨_, rfl⟩
                  have HAN := box han
                  have HALN : Box ((allL n L).length = an) := box (by rw [← han, ← hal]; unfold allB; rw [List.length_map])
                  have hrl : r.size ≤ 50 := by omega
                  have hr6 : r.size ≤ 65000 := by omega
                  have hz1 : rx.size ≤ 65000 := by rw [← hrx, ByteArray.size_append]; show r.size + 2 ≤ 65000; omega
                  have r0 : ∀ w, (Op.stringOp .add r ⟨#[44, 120]⟩).run Tryz.prog w = .ok (.string rx) w := fun w => by
                    have := run_string_add_sum (P := Tryz.prog) w r ⟨#[44, 120]⟩ (by show r.size + 2 ≤ 9223372036854775807; omega)
                    rw [hrx] at this; exact this
                  have hqi : InI64 q := ⟨by omega, by omega⟩
                  have hq0 : 0 ≤ q := by omega
                  have hq9 : q ≤ 1000 := by omega
                  obtain ⟨fq, hfq⟩ : ∃ fq, bs (fmtQ q) = fq := ⟨_, rfl⟩
                  have HFQ := box hfq
                  have hfz : fq.size ≤ 5 := by rw [← hfq, bs_size]; exact fmtQ_le5 q
                  obtain ⟨t1, ht1⟩ : ∃ t1, r ++ (⟨#[59, 113, 61]⟩ : ByteArray) = t1 := ⟨_, rfl⟩
                  obtain ⟨x, hx⟩ : ∃ x, t1 ++ fq = x := ⟨_, rfl⟩
                  have s1 : t1.size = r.size + 3 := by rw [← ht1, ByteArray.size_append]; rfl
                  have s2 : x.size = r.size + 3 + fq.size := by rw [← hx, ByteArray.size_append, s1]
                  have r1 : ∀ w, (Op.stringOp .add r ⟨#[59, 113, 61]⟩).run Tryz.prog w = .ok (.string t1) w := fun w => by
                    have := run_string_add_sum (P := Tryz.prog) w r ⟨#[59, 113, 61]⟩ (by show r.size + 3 ≤ 9223372036854775807; omega)
                    rw [ht1] at this; exact this
                  have r2 : ∀ w, (Op.stringOp .add t1 fq).run Tryz.prog w = .ok (.string x) w := fun w => by
                    have := run_string_add_sum (P := Tryz.prog) w t1 fq (by omega)
                    rw [hx] at this; exact this
                  have HXL : Box (x.data.toList = r.data.toList ++ qTail q) := box (by rw [← hx, ← ht1, ← hfq]; unfold qTail; simp [ByteArray.data_append, bs])
                  clear hn hV hk hnv hss f0 f1 hX2 y4 y5 hcc hqh hal han hfq ht1 hx
                  by_cases hk0 : k = 0
                  · have hkb : (k == 0) = true := by simp [hk0]
                    clear hk0 hrx hm1 hm2
                    clear hq1 hq2 hq3 hW
                    go_enter Tryz.func8, Tryz.ntmps8
                    go_wp2_with fail
                    refine (keepA17_is hx0.out hX.out Q1 HNX).mono ?_; rintro e w1 ⟨rfl, rfl⟩
                    go_wp2_with fail
                    refine (rValid17_is x6 FX hX.out.1 Q2 HNX).mono ?_; rintro e w1 ⟨rfl, hb1⟩
                    have B1 := box hb1
                    clear hb1
                    go_wp2_with fail
                    refine (keepF17_is hl0.out (hF.out.below B1.out) Q3 HNL).mono ?_; rintro e w2 ⟨rfl, rfl⟩
                    have d1 := (B1.out.cell (cell_lt c0w.out)).trans c0w.out
                    go_wp2_with fail
                    refine (rKind15_is hn4 HK).mono ?_; rintro e w2 ⟨rfl, hb2⟩
                    have B2 := box (B1.out.trans (hb2.mono B1.out.size))
                    have d2 := (B2.out.cell (cell_lt c0w.out)).trans c0w.out
                    clear hb2 d1
                    go_wp2
                    go_ret
                    exact ⟨rfl, B2.out⟩
                  · have hkb : (k == 0) = false := by simp [hk0]
                    have HK0 := box hk0
                    clear hk0
                    cases qh with
                    | false =>
                      clear hq1 hq2 hq3 hW
                      go_enter Tryz.func8, Tryz.ntmps8
                      go_wp2_with fail
                      refine (keepA17_is hx0.out hX.out Q1 HNX).mono ?_; rintro e w1 ⟨rfl, rfl⟩
                      go_wp2_with fail
                      refine (rValid17_is x6 FX hX.out.1 Q2 HNX).mono ?_; rintro e w1 ⟨rfl, hb1⟩
                      have B1 := box hb1
                      clear hb1
                      go_wp2_with fail
                      refine (keepF17_is hl0.out (hF.out.below B1.out) Q3 HNL).mono ?_; rintro e w2 ⟨rfl, rfl⟩
                      have d1 := (B1.out.cell (cell_lt c0w.out)).trans c0w.out
                      go_wp2_with fail
                      refine (rKind15_is hn4 HK).mono ?_; rintro e w2 ⟨rfl, hb2⟩
                      have B2 := box (B1.out.trans (hb2.mono B1.out.size))
                      have d2 := (B2.out.cell (cell_lt c0w.out)).trans c0w.out
                      clear hb2 d1
                      go_wp2_with fail
                      refine (rHas18_is FL hn65 (hF.out.below B2.out) HH HNL).mono ?_; rintro e w3 ⟨rfl, hb3⟩
                      have B3 := box (B2.out.trans (hb3.mono B2.out.size))
                      have d3 := (B3.out.cell (cell_lt c0w.out)).trans c0w.out
                      clear hb3 d2
                      go_wp2
                      go_ret
                      exact ⟨rfl, B3.out⟩
                    | true =>
                      by_cases han : (50 : Int) < (an : Int)
                      · clear hq1 hq2 hq3 hW
                        go_enter Tryz.func8, Tryz.ntmps8
                        go_wp2_with fail
                        refine (keepA17_is hx0.out hX.out Q1 HNX).mono ?_; rintro e w1 ⟨rfl, rfl⟩
                        go_wp2_with fail
                        refine (rValid17_is x6 FX hX.out.1 Q2 HNX).mono ?_; rintro e w1 ⟨rfl, hb1⟩
                        have B1 := box hb1
                        clear hb1
                        go_wp2_with fail
                        refine (keepF17_is hl0.out (hF.out.below B1.out) Q3 HNL).mono ?_; rintro e w2 ⟨rfl, rfl⟩
                        have d1 := (B1.out.cell (cell_lt c0w.out)).trans c0w.out
                        go_wp2_with fail
                        refine (rKind15_is hn4 HK).mono ?_; rintro e w2 ⟨rfl, hb2⟩
                        have B2 := box (B1.out.trans (hb2.mono B1.out.size))
                        have d2 := (B2.out.cell (cell_lt c0w.out)).trans c0w.out
                        clear hb2 d1
                        go_wp2_with fail
                        refine (rHas18_is FL hn65 (hF.out.below B2.out) HH HNL).mono ?_; rintro e w3 ⟨rfl, hb3⟩
                        have B3 := box (B2.out.trans (hb3.mono B2.out.size))
                        have d3 := (B3.out.cell (cell_lt c0w.out)).trans c0w.out
                        clear hb3 d2
                        go_wp2_with fail
                        refine (rAll17_is FL hn65.out (hF.out.below B3.out) HAL HNL).mono ?_; rintro e w4 ⟨v4, rfl, hO4, hb4⟩
                        obtain ⟨a4, c4, rfl, _, _⟩ := hO4.ss
                        rw [HAN.out]
                        have B4 := box (B3.out.trans (hb4.mono B3.out.size))
                        clear hO4 hb4 d3
                        go_wp2
                        go_ret
                        exact ⟨rfl, B4.out⟩
                      · by_cases hm11 : m1 ≠ 1
                        · have hni : ((m1 : Int) != 1) = true := by rw [bne_iff_ne]; omega
                          clear hm11
                          clear hq1 hq2 hq3 hW
                          go_enter Tryz.func8, Tryz.ntmps8
                          go_wp2_with fail
                          refine (keepA17_is hx0.out hX.out Q1 HNX).mono ?_; rintro e w1 ⟨rfl, rfl⟩
                          go_wp2_with fail
                          refine (rValid17_is x6 FX hX.out.1 Q2 HNX).mono ?_; rintro e w1 ⟨rfl, hb1⟩
                          have B1 := box hb1
                          clear hb1
                          go_wp2_with fail
                          refine (keepF17_is hl0.out (hF.out.below B1.out) Q3 HNL).mono ?_; rintro e w2 ⟨rfl, rfl⟩
                          have d1 := (B1.out.cell (cell_lt c0w.out)).trans c0w.out
                          go_wp2_with fail
                          refine (rKind15_is hn4 HK).mono ?_; rintro e w2 ⟨rfl, hb2⟩
                          have B2 := box (B1.out.trans (hb2.mono B1.out.size))
                          have d2 := (B2.out.cell (cell_lt c0w.out)).trans c0w.out
                          clear hb2 d1
                          go_wp2_with fail
                          refine (rHas18_is FL hn65 (hF.out.below B2.out) HH HNL).mono ?_; rintro e w3 ⟨rfl, hb3⟩
                          have B3 := box (B2.out.trans (hb3.mono B2.out.size))
                          have d3 := (B3.out.cell (cell_lt c0w.out)).trans c0w.out
                          clear hb3 d2
                          go_wp2_with fail
                          refine (rAll17_is FL hn65.out (hF.out.below B3.out) HAL HNL).mono ?_; rintro e w4 ⟨v4, rfl, hO4, hb4⟩
                          obtain ⟨a4, c4, rfl, _, _⟩ := hO4.ss
                          rw [HAN.out]
                          have B4 := box (B3.out.trans (hb4.mono B3.out.size))
                          clear hO4 hb4 d3
                          go_wp2_with fail
                          refine (rSplitLen_is hr6 H1).mono ?_; rintro e w5 ⟨p5, c5, rfl, hb5⟩
                          have B5 := box (B4.out.trans (hb5.mono B4.out.size))
                          clear hb5
                          go_wp2
                          go_ret
                          exact ⟨rfl, B5.out⟩
                        · have hni : ((m1 : Int) != 1) = false := by rw [bne_eq_false_iff_eq]; omega
                          by_cases hm22 : m2 ≠ 2
                          · have hnj : ((m2 : Int) != 2) = true := by rw [bne_iff_ne]; omega
                            clear hm22
                            clear hq1 hq2 hq3 hW
                            go_enter Tryz.func8, Tryz.ntmps8
                            go_wp2_with fail
                            refine (keepA17_is hx0.out hX.out Q1 HNX).mono ?_; rintro e w1 ⟨rfl, rfl⟩
                            go_wp2_with fail
                            refine (rValid17_is x6 FX hX.out.1 Q2 HNX).mono ?_; rintro e w1 ⟨rfl, hb1⟩
                            have B1 := box hb1
                            clear hb1
                            go_wp2_with fail
                            refine (keepF17_is hl0.out (hF.out.below B1.out) Q3 HNL).mono ?_; rintro e w2 ⟨rfl, rfl⟩
                            have d1 := (B1.out.cell (cell_lt c0w.out)).trans c0w.out
                            go_wp2_with fail
                            refine (rKind15_is hn4 HK).mono ?_; rintro e w2 ⟨rfl, hb2⟩
                            have B2 := box (B1.out.trans (hb2.mono B1.out.size))
                            have d2 := (B2.out.cell (cell_lt c0w.out)).trans c0w.out
                            clear hb2 d1
                            go_wp2_with fail
                            refine (rHas18_is FL hn65 (hF.out.below B2.out) HH HNL).mono ?_; rintro e w3 ⟨rfl, hb3⟩
                            have B3 := box (B2.out.trans (hb3.mono B2.out.size))
                            have d3 := (B3.out.cell (cell_lt c0w.out)).trans c0w.out
                            clear hb3 d2
                            go_wp2_with fail
                            refine (rAll17_is FL hn65.out (hF.out.below B3.out) HAL HNL).mono ?_; rintro e w4 ⟨v4, rfl, hO4, hb4⟩
                            obtain ⟨a4, c4, rfl, _, _⟩ := hO4.ss
                            rw [HAN.out]
                            have B4 := box (B3.out.trans (hb4.mono B3.out.size))
                            clear hO4 hb4 d3
                            go_wp2_with fail
                            refine (rSplitLen_is hr6 H1).mono ?_; rintro e w5 ⟨p5, c5, rfl, hb5⟩
                            have B5 := box (B4.out.trans (hb5.mono B4.out.size))
                            clear hb5
                            go_wp2_with fail
                            refine (rSplitLen_is hz1 H2).mono ?_; rintro e w6 ⟨p6, c6, rfl, hb6⟩
                            have B6 := box (B5.out.trans (hb6.mono B5.out.size))
                            clear hb6
                            go_wp2
                            go_ret
                            exact ⟨rfl, B6.out⟩
                          · have hnj : ((m2 : Int) != 2) = false := by rw [bne_eq_false_iff_eq]; omega
                            have HPF0 : ∃ P o, prefsV k [(n, x)] = P ∧ prefsO k [(n, x)] = o := ⟨_, _, rfl, rfl⟩
                            obtain ⟨P, o, hP, ho⟩ := HPF0
                            have HPF : Box (prefsV k [(n, x)] = P ∧ prefsO k [(n, x)] = o) := box ⟨hP, ho⟩
                            have FLF : Box (FitL [(n, x)]) := box (fit_mem18 (by simp) (fun p hp => by rw [List.mem_singleton.1 hp]; exact ⟨by show n.size ≤ 9000; omega, by show x.size ≤ 9000; omega⟩))
                            have hpl6 : P.length ≤ 65536 := by rw [← hP]; exact prefs17_len _ _
                            have HPZ : Box (∀ i (hi : i < P.length), P[i].1.size ≤ 20000) := box (by rw [← hP]; exact prefs17_small FLF.out.2)
                            have HSAME : Box ((∀ p ∈ P, ∀ v ∈ V, matchP k p.1.data.toList v.data.toList < 0) → sameC X L (L ++ [(n, x)]) st = true ∧ sameC X L ((n, x) :: L) st = true) := box (fun hall => by
                              obtain ⟨u1, u2, u3⟩ := HKX.out
                              have hsp := split_tail18 (r := r.data.toList) (s := qTail q) (tail_plain18 hq0 hq9) (by have := H1.out; omega)
                              refine unav_same (i := i) HQ2.out hiX u2.symm (by rw [u1]; exact HK0.out) (by rw [u2]; exact HH.out) ?_ ?_
                              · rw [u2]; show (allL n L).length + (splitL x.data.toList).length ≤ 64; rw [HALN.out, HXL.out]; have := H1.out; omega
                              · rw [u1, u3, hP]; exact hall)
                            have FM1 : Box (FitL (L ++ [(n, x)])) := box (fit_app18 hq3 (by omega) (by omega))
                            have FM2 : Box (FitL ((n, x) :: L)) := box (fit_app19 hq3 (by omega) (by omega))
                            clear hP ho hrx hm1 hm2 hm11 hm22 y1
                            clear hq1 hq2 hq3 hW
                            go_enter Tryz.func8, Tryz.ntmps8
                            go_wp2_with fail
                            refine (keepA17_is hx0.out hX.out Q1 HNX).mono ?_; rintro e w1 ⟨rfl, rfl⟩
                            go_wp2_with fail
                            refine (rValid17_is x6 FX hX.out.1 Q2 HNX).mono ?_; rintro e w1 ⟨rfl, hb1⟩
                            have B1 := box hb1
                            clear hb1
                            go_wp2_with fail
                            refine (keepF17_is hl0.out (hF.out.below B1.out) Q3 HNL).mono ?_; rintro e w2 ⟨rfl, rfl⟩
                            have d1 := (B1.out.cell (cell_lt c0w.out)).trans c0w.out
                            go_wp2_with fail
                            refine (rKind15_is hn4 HK).mono ?_; rintro e w2 ⟨rfl, hb2⟩
                            have B2 := box (B1.out.trans (hb2.mono B1.out.size))
                            have d2 := (B2.out.cell (cell_lt c0w.out)).trans c0w.out
                            clear hb2 d1
                            go_wp2_with fail
                            refine (rHas18_is FL hn65 (hF.out.below B2.out) HH HNL).mono ?_; rintro e w3 ⟨rfl, hb3⟩
                            have B3 := box (B2.out.trans (hb3.mono B2.out.size))
                            have d3 := (B3.out.cell (cell_lt c0w.out)).trans c0w.out
                            clear hb3 d2
                            go_wp2_with fail
                            refine (rAll17_is FL hn65.out (hF.out.below B3.out) HAL HNL).mono ?_; rintro e w4 ⟨v4, rfl, hO4, hb4⟩
                            obtain ⟨a4, c4, rfl, _, _⟩ := hO4.ss
                            rw [HAN.out]
                            have B4 := box (B3.out.trans (hb4.mono B3.out.size))
                            clear hO4 hb4 d3
                            go_wp2_with fail
                            refine (rSplitLen_is hr6 H1).mono ?_; rintro e w5 ⟨p5, c5, rfl, hb5⟩
                            have B5 := box (B4.out.trans (hb5.mono B4.out.size))
                            clear hb5
                            go_wp2_with fail
                            refine (rSplitLen_is hz1 H2).mono ?_; rintro e w6 ⟨p6, c6, rfl, hb6⟩
                            have B6 := box (B5.out.trans (hb6.mono B5.out.size))
                            clear hb6
                            have F6 := box (hF.out.below B6.out)
                            have hs6 := B6.out.size
                            have c06 := (B6.out.cell (cell_lt c0w.out)).trans c0w.out
                            go_upto_region 6 with fail
                            go_cut [16] from 100 (fun s16 wx => ∃ G, s16 = .pointer (some ⟨G, 0, none⟩) ∧ Box ((wx.cell? ⟨G, 0, none⟩ = some (.string n) ∧ wx.cell? ⟨G, 1, none⟩ = some (.string x)) ∧ Below w.heap.size w wx))
                            case first =>
                              go_wp2_with fail
                              refine wp_region_held_drew (S := (fun w' : World => w'.cell? ⟨g, off + i * 2, none⟩ = some (.string n) ∧ Box (Below w.heap.size w w'))) (by kernel_rfl) ⟨(B6.out.cell (cell_lt c0w.out)).trans c0w.out, box B6.out.drew⟩ (fun hHeld => ?_)
                              refine wpAnyH_take (i := 0) (oi := { dst := some 100, op := Op.move (Operand.tmp 0), type := 22, pos := "law.go:86", after := #[], guard := none }) (v := ?v0za) rfl (by kernel_rfl) (by kernel_rfl) (by kernel_rfl) (fun _ _ _ h => h) (Or.inl ⟨by rfl, ?y0za⟩) (by assumption) ?r0za
                              case y0za => (intro w hSw; (try dsimp only at hSw); go_simp; first | done | with_reducible rfl)
                              try simp only [Act.put, List.setIfInBounds_toArray, List.set_cons_zero, List.set_cons_succ]
                              refine wpAnyH_take (i := 1) (oi := { dst := some 101, op := Op.move (Operand.tmp 2), type := 3, pos := "law.go:86", after := #[], guard := none }) (v := ?v1za) rfl (by kernel_rfl) (by kernel_rfl) (by kernel_rfl) (fun _ _ _ h => h) (Or.inl ⟨by rfl, ?y1za⟩) (by assumption) ?r1za
                              case y1za => (intro w hSw; (try dsimp only at hSw); go_simp; first | done | with_reducible rfl)
                              try simp only [Act.put, List.setIfInBounds_toArray, List.set_cons_zero, List.set_cons_succ]
                              refine wpAnyH_take (i := 2) (oi := { dst := some 102, op := Op.indexAddr 22 (Operand.tmp 100) (Operand.tmp 101), type := 0, pos := "law.go:86", after := #[{ on := 0, ground := Ground.data }, { on := 1, ground := Ground.data }], guard := none }) (v := ?v2za) rfl (by kernel_rfl) (by kernel_rfl) (by kernel_rfl) (fun _ _ _ h => h) (Or.inl ⟨by rfl, ?y2za⟩) (by assumption) ?r2za
                              case y2za => (intro w hSw; (try dsimp only at hSw); go_simp; first | done | with_reducible rfl)
                              try simp only [Act.put, List.setIfInBounds_toArray, List.set_cons_zero, List.set_cons_succ]
                              refine wpAnyH_take (i := 3) (oi := { dst := some 103, op := Op.fieldAddr 39 (Operand.tmp 102) 0, type := 0, pos := "law.go:86", after := #[{ on := 2, ground := Ground.data }], guard := none }) (v := ?v3za) rfl (by kernel_rfl) (by kernel_rfl) (by kernel_rfl) (fun _ _ _ h => h) (Or.inl ⟨by rfl, ?y3za⟩) (by assumption) ?r3za
                              case y3za => (intro w hSw; (try dsimp only at hSw); go_simp; first | done | with_reducible rfl)
                              try simp only [Act.put, List.setIfInBounds_toArray, List.set_cons_zero, List.set_cons_succ]
                              refine wpAnyH_take (i := 4) (oi := { dst := some 104, op := Op.load 9 (Operand.tmp 103), type := 9, pos := "law.go:86", after := #[{ on := 3, ground := Ground.data }], guard := none }) (v := ?v4za) rfl (by kernel_rfl) (by kernel_rfl) (by kernel_rfl) (fun _ _ _ h => h) (Or.inl ⟨by rfl, ?y4za⟩) (by assumption) ?r4za
                              case y4za => (intro w hSw; (try dsimp only at hSw); go_simp; first | done | with_reducible rfl)
                              try simp only [Act.put, List.setIfInBounds_toArray, List.set_cons_zero, List.set_cons_succ]
                              refine wpAnyH_take (i := 5) (oi := { dst := some 105, op := Op.move (Operand.tmp 3), type := 9, pos := "law.go:86", after := #[], guard := none }) (v := ?v5za) rfl (by kernel_rfl) (by kernel_rfl) (by kernel_rfl) (fun _ _ _ h => h) (Or.inl ⟨by rfl, ?y5za⟩) (by assumption) ?r5za
                              case y5za => (intro w hSw; (try dsimp only at hSw); go_simp; first | done | with_reducible rfl)
                              try simp only [Act.put, List.setIfInBounds_toArray, List.set_cons_zero, List.set_cons_succ]
                              refine wpAnyH_take (i := 6) (oi := { dst := some 106, op := Op.binOp BinOp.add 9 (Operand.tmp 105) (Operand.const (Value.string { data := #[59, 113, 61] })) 9, type := 9, pos := "law.go:86", after := #[{ on := 5, ground := Ground.data }], guard := none }) (v := ?v6za) rfl (by kernel_rfl) (by kernel_rfl) (by kernel_rfl) (fun _ _ _ h => h) (Or.inl ⟨by rfl, ?y6za⟩) (by assumption) ?r6za
                              case y6za => (intro w hSw; (try dsimp only at hSw); go_simp; first | done | with_reducible rfl)
                              try simp only [Act.put, List.setIfInBounds_toArray, List.set_cons_zero, List.set_cons_succ]
                              refine wpAnyH_take (i := 7) (oi := { dst := some 107, op := Op.move (Operand.tmp 4), type := 3, pos := "law.go:86", after := #[], guard := none }) (v := ?v7za) rfl (by kernel_rfl) (by kernel_rfl) (by kernel_rfl) (fun _ _ _ h => h) (Or.inl ⟨by rfl, ?y7za⟩) (by assumption) ?r7za
                              case y7za => (intro w hSw; (try dsimp only at hSw); go_simp; first | done | with_reducible rfl)
                              try simp only [Act.put, List.setIfInBounds_toArray, List.set_cons_zero, List.set_cons_succ]
                              refine wpAnyH_ready (rs := [8, 11]) (by kernel_rfl) (by simp) ?_
                              refine AllReadyH.cons (o := { dst := some 108, op := Op.call { callee := Callee.value (Operand.func 31), args := #[Operand.tmp 107], argTypes := #[3] }, type := 9, pos := "law.go:86", after := #[{ on := 7, ground := Ground.data }], guard := none }) rfl (fun K hK => ?_) (AllReadyH.cons (o := { dst := some 16, op := Op.alloc 42, type := 0, pos := "law.go:86", after := #[], guard := none }) rfl (fun K hK => ?_) AllReadyH.nil)
                              · go_simp
                                refine (rFmtQ13_is hqi HFQ).mono ?_; rintro e w7 ⟨rfl, hb7⟩
                                have BA := box (hHeld.2.out.trans (hb7.mono hHeld.2.out.size))
                                clear hb7
                                go_wp2_with fail
                                refine hK.out _ _ ⟨(BA.out.cell (cell_lt c0w.out)).trans c0w.out, BA⟩ (fun hHeld => ?_)
                                clear hK K
                                try simp only [Act.put, List.setIfInBounds_toArray, List.set_cons_zero, List.set_cons_succ]
                                refine wpAnyH_take (i := 9) (oi := { dst := some 109, op := Op.binOp BinOp.add 9 (Operand.tmp 106) (Operand.tmp 108) 9, type := 9, pos := "law.go:86", after := #[{ on := 6, ground := Ground.data }, { on := 8, ground := Ground.data }], guard := none }) (v := ?v9zb) rfl (by kernel_rfl) (by kernel_rfl) (by kernel_rfl) (fun _ _ _ h => h) (Or.inl ⟨by rfl, ?y9zb⟩) (by assumption) ?r9zb
                                case y9zb => (intro w hSw; (try dsimp only at hSw); go_simp; first | done | with_reducible rfl)
                                try simp only [Act.put, List.setIfInBounds_toArray, List.set_cons_zero, List.set_cons_succ]
                                refine wpAnyH_take (i := 10) (oi := { dst := some 110, op := Op.build 42 #[(0, Operand.tmp 104), (1, Operand.tmp 109)], type := 42, pos := "law.go:86", after := #[{ on := 4, ground := Ground.data }, { on := 9, ground := Ground.data }], guard := none }) (v := ?v10zb) rfl (by kernel_rfl) (by kernel_rfl) (by kernel_rfl) (fun _ _ _ h => h) (Or.inl ⟨by rfl, ?y10zb⟩) (by assumption) ?r10zb
                                case y10zb => (intro w hSw; (try dsimp only at hSw); go_simp; first | done | with_reducible rfl)
                                try simp only [Act.put, List.setIfInBounds_toArray, List.set_cons_zero, List.set_cons_succ]
                                refine wpAnyH_ready (rs := [11]) (by kernel_rfl) (by simp) ?_
                                refine AllReadyH.cons (o := { dst := some 16, op := Op.alloc 42, type := 0, pos := "law.go:86", after := #[], guard := none }) rfl (fun K hK => ?_) AllReadyH.nil
                                go_simp
                                have BB := box (BA.out.alloc BA.out.size (.cells #[.string ⟨#[]⟩, .string ⟨#[]⟩] 42))
                                go_wp2_with fail
                                refine hK.out _ _ ⟨(BB.out.cell (cell_lt c0w.out)).trans c0w.out, BB⟩ (fun hHeld => ?_)
                                clear hK K
                                try simp only [Act.put, List.setIfInBounds_toArray, List.set_cons_zero, List.set_cons_succ]
                                refine wpAnyH_ready (rs := [12]) (by kernel_rfl) (by simp) ?_
                                refine AllReadyH.cons (o := { dst := none, op := Op.store 42 (Operand.tmp 16) (Operand.tmp 110), type := 0, pos := "law.go:86", after := #[{ on := 11, ground := Ground.data }, { on := 10, ground := Ground.data }, { on := 8, ground := Ground.chain }, { on := 0, ground := Ground.phase }, { on := 1, ground := Ground.phase }, { on := 2, ground := Ground.phase }, { on := 3, ground := Ground.phase }, { on := 4, ground := Ground.phase }, { on := 5, ground := Ground.phase }, { on := 6, ground := Ground.phase }, { on := 7, ground := Ground.phase }, { on := 8, ground := Ground.phase }, { on := 9, ground := Ground.phase }, { on := 10, ground := Ground.phase }, { on := 11, ground := Ground.phase }], guard := none }) rfl (fun K hK => ?_) AllReadyH.nil
                                go_simp
                                have BC := box (BA.out.alloc BA.out.size (.cells #[.string n, .string x] 42))
                                go_wp2_with fail
                                refine hK.out _ _ ⟨(BC.out.cell (cell_lt c0w.out)).trans c0w.out, BC⟩ (fun hHeld => ?_)
                                clear hK K
                                try simp only [Act.put, List.setIfInBounds_toArray, List.set_cons_zero, List.set_cons_succ]
                                refine wpAnyH_done (by kernel_rfl) ?_ _
                                go_wp2
                                go_meet
                                case rel => exact ⟨w7.heap.size, rfl, box ⟨⟨(World.cell?_alloc_at (w := w7) #[.string n, .string x] 42 w7.heap.size 0 rfl).trans rfl, (World.cell?_alloc_at (w := w7) #[.string n, .string x] 42 w7.heap.size 1 rfl).trans rfl⟩, BC.out⟩⟩
                              · go_simp
                                have BA := box (show Below w.heap.size w (w6.alloc (.cells #[.string ⟨#[]⟩, .string ⟨#[]⟩] 42)).drew from hHeld.2.out.alloc hHeld.2.out.size (.cells #[.string ⟨#[]⟩, .string ⟨#[]⟩] 42))
                                go_wp2_with fail
                                refine hK.out _ _ ⟨(BA.out.cell (cell_lt c0w.out)).trans c0w.out, BA⟩ (fun hHeld => ?_)
                                clear hK K
                                try simp only [Act.put, List.setIfInBounds_toArray, List.set_cons_zero, List.set_cons_succ]
                                obtain ⟨u6, hu6⟩ : ∃ u6, (w6.alloc (.cells #[.string ⟨#[]⟩, .string ⟨#[]⟩] 42)).drew = u6 := ⟨_, rfl⟩
                                have HU6 := box hu6
                                obtain ⟨G, hG⟩ : ∃ G, w6.heap.size = G := ⟨_, rfl⟩
                                have HGG := box hG
                                have e0 : u6.heap[G]? = some (.cells #[.string ⟨#[]⟩, .string ⟨#[]⟩] 42 (0, 0)) := by rw [← hu6, ← hG]; exact heap_alloc_new w6 _
                                have hGlt : G < u6.heap.size := heap_lt e0
                                have hGw : w.heap.size ≤ G := by rw [← hG]; exact B6.out.size
                                have E0 := box e0
                                rw [hu6] at BA ⊢
                                rw [hG]
                                clear hu6 hG e0
                                refine wpAnyH_ready (rs := [8]) (by kernel_rfl) (by simp) ?_
                                refine AllReadyH.cons (o := { dst := some 108, op := Op.call { callee := Callee.value (Operand.func 31), args := #[Operand.tmp 107], argTypes := #[3] }, type := 9, pos := "law.go:86", after := #[{ on := 7, ground := Ground.data }], guard := none }) rfl (fun K hK => ?_) AllReadyH.nil
                                go_simp
                                refine (rFmtQ13_is hqi HFQ).mono ?_; rintro e w7 ⟨rfl, hb7⟩
                                have BB := box (BA.out.trans (hb7.mono BA.out.size))
                                have e7 : w7.heap[G]? = some (.cells #[.string ⟨#[]⟩, .string ⟨#[]⟩] 42 (0, 0)) := (hb7.block G hGlt).trans E0.out
                                have k0 : w7.cell? ⟨G, 0, none⟩ = some (.string ⟨#[]⟩) := by rw [Lib.cell_of_heap e7]; rfl
                                have k1 : w7.cell? ⟨G, 1, none⟩ = some (.string ⟨#[]⟩) := by rw [Lib.cell_of_heap e7]; rfl
                                have z0 : w7.frozen? ⟨G, 0, none⟩ = false := Lib.frozen_of_heap e7 0
                                have z1 : w7.frozen? ⟨G, 1, none⟩ = false := Lib.frozen_of_heap e7 1
                                have E7 := box e7
                                clear hb7 e7
                                go_wp2_with fail
                                refine hK.out _ _ ⟨(BB.out.cell (cell_lt c0w.out)).trans c0w.out, BB⟩ (fun hHeld => ?_)
                                clear hK K
                                try simp only [Act.put, List.setIfInBounds_toArray, List.set_cons_zero, List.set_cons_succ]
                                refine wpAnyH_take (i := 9) (oi := { dst := some 109, op := Op.binOp BinOp.add 9 (Operand.tmp 106) (Operand.tmp 108) 9, type := 9, pos := "law.go:86", after := #[{ on := 6, ground := Ground.data }, { on := 8, ground := Ground.data }], guard := none }) (v := ?v9zc) rfl (by kernel_rfl) (by kernel_rfl) (by kernel_rfl) (fun _ _ _ h => h) (Or.inl ⟨by rfl, ?y9zc⟩) (by assumption) ?r9zc
                                case y9zc => (intro w hSw; (try dsimp only at hSw); go_simp; first | done | with_reducible rfl)
                                try simp only [Act.put, List.setIfInBounds_toArray, List.set_cons_zero, List.set_cons_succ]
                                refine wpAnyH_take (i := 10) (oi := { dst := some 110, op := Op.build 42 #[(0, Operand.tmp 104), (1, Operand.tmp 109)], type := 42, pos := "law.go:86", after := #[{ on := 4, ground := Ground.data }, { on := 9, ground := Ground.data }], guard := none }) (v := ?v10zc) rfl (by kernel_rfl) (by kernel_rfl) (by kernel_rfl) (fun _ _ _ h => h) (Or.inl ⟨by rfl, ?y10zc⟩) (by assumption) ?r10zc
                                case y10zc => (intro w hSw; (try dsimp only at hSw); go_simp; first | done | with_reducible rfl)
                                try simp only [Act.put, List.setIfInBounds_toArray, List.set_cons_zero, List.set_cons_succ]
                                refine wpAnyH_ready (rs := [12]) (by kernel_rfl) (by simp) ?_
                                refine AllReadyH.cons (o := { dst := none, op := Op.store 42 (Operand.tmp 16) (Operand.tmp 110), type := 0, pos := "law.go:86", after := #[{ on := 11, ground := Ground.data }, { on := 10, ground := Ground.data }, { on := 8, ground := Ground.chain }, { on := 0, ground := Ground.phase }, { on := 1, ground := Ground.phase }, { on := 2, ground := Ground.phase }, { on := 3, ground := Ground.phase }, { on := 4, ground := Ground.phase }, { on := 5, ground := Ground.phase }, { on := 6, ground := Ground.phase }, { on := 7, ground := Ground.phase }, { on := 8, ground := Ground.phase }, { on := 9, ground := Ground.phase }, { on := 10, ground := Ground.phase }, { on := 11, ground := Ground.phase }], guard := none }) rfl (fun K hK => ?_) AllReadyH.nil
                                go_simp
                                have BC : Box (Below w.heap.size w ((w7.setCell ⟨G, 0, none⟩ (.string n)).setCell ⟨G, 1, none⟩ (.string x))) := box ((BB.out.setCell (p := ⟨G, 0, none⟩) hGw _).setCell (p := ⟨G, 1, none⟩) hGw _)
                                go_wp2_with fail
                                refine hK.out _ _ ⟨(BC.out.cell (cell_lt c0w.out)).trans c0w.out, BC⟩ (fun hHeld => ?_)
                                clear hK K
                                try simp only [Act.put, List.setIfInBounds_toArray, List.set_cons_zero, List.set_cons_succ]
                                refine wpAnyH_done (by kernel_rfl) ?_ _
                                go_wp2
                                go_meet
                                case rel => exact ⟨G, rfl, box ⟨two_set18 k0 k1, BC.out⟩⟩
                            case rest =>
                              obtain ⟨G, rfl, hC⟩ := hcut
                              have g0c := hC.out.1.1
                              have g1c := hC.out.1.2
                              have BC := box hC.out.2
                              have hsc := BC.out.size
                              obtain ⟨wf, hwf⟩ : ∃ wf, wc.alloc (.cells #[.string n, .string x] 42) = wf := ⟨_, rfl⟩
                              have HWF := box hwf
                              have BNF := box (show Below wc.heap.size wc wf from by rw [← hwf]; exact below_new _ _)
                              have FSF : Box (Fs wf (some ⟨wc.heap.size, 0, none⟩) [(n, x)]) := box (by rw [← hwf]; exact fs_one15 n x wc 42)
                              clear hwf
                              go_wp2_with fail
                              rw [HWF.out]
                              refine (rPrefs17_is hki FLF FSF.out HPF (box rfl)).mono ?_; rintro e wp ⟨pa, pc, rfl, hQ, hbp⟩
                              have BP := box ((BC.out.trans (BNF.out.mono hsc)).trans (hbp.mono (BC.out.trans (BNF.out.mono hsc)).size))
                              have hsp := BP.out.size
                              have BCP := box (BNF.out.trans (hbp.mono BNF.out.size))
                              have QP0 := box hQ
                              have G0 := box ((BCP.out.cell (cell_lt g0c)).trans g0c)
                              have G1 := box ((BCP.out.cell (cell_lt g1c)).trans g1c)
                              have CA := box ((BP.out.cell (cell_lt c1w.out)).trans c1w.out)
                              have SV := box (HSS.out.below BP.out)
                              clear hQ hbp g0c g1c c06 hC
                              go_wp2
                              go_loopw [19] (fun i wr => UnRel V P k wp i wr) (fun i _ => nv - (intOf i).toNat)
                              case atStart => exact ⟨0, Nat.zero_le _, rfl, fun a _ h => absurd h (by omega), box (Below.refl _ _)⟩
                              case round =>
                                obtain ⟨wl, rfl⟩ : ∃ wl, wl = wr := ⟨_, rfl⟩
                                obtain ⟨j, hj, rfl, hno, BL0⟩ := hrel
                                have HNO := box hno
                                have e1 := (BL0.out.cell (cell_lt CA.out)).trans CA.out
                                clear hno
                                by_cases hlt : j < nv
                                · have hji : (j : Int) < (nv : Int) := by omega
                                  have hj0 : (0 : Int) ≤ (j : Int) := by omega
                                  have hjV : j < V.length := by have := HNV.out; omega
                                  obtain ⟨v, hv⟩ : ∃ v, V[j] = v := ⟨_, rfl⟩
                                  have hvz : v.size ≤ 20000 := by rw [← hv]; exact HVZ.out _ (List.getElem_mem hjV)
                                  have HVV := box hv
                                  obtain ⟨gv, offv, hb, cv0⟩ := SV.out j hjV
                                  subst hb
                                  rw [hv] at cv0
                                  have CV := box cv0
                                  clear hv cv0
                                  go_wp2
                                  go_loopw [20] (fun i wr => UmRel P k v wp i wr) (fun i _ => P.length - (intOf i).toNat)
                                  case atStart => exact ⟨0, Nat.zero_le _, rfl, fun a _ h => absurd h (by omega), BL0⟩
                                  case round =>
                                    obtain ⟨wm, rfl⟩ : ∃ wm, wm = wr := ⟨_, rfl⟩
                                    obtain ⟨m, hm, rfl, hnm, BL⟩ := hrel
                                    have HNM := box hnm
                                    clear hnm
                                    by_cases hmt : m < P.length
                                    · have hmi : (m : Int) < (P.length : Int) := by omega
                                      have hm0 : (0 : Int) ≤ (m : Int) := by omega
                                      obtain ⟨rr, hr⟩ : ∃ rr, P[m].1 = rr := ⟨_, rfl⟩
                                      have hrz : rr.size ≤ 20000 := by rw [← hr]; exact HPZ.out m hmt
                                      have HRR := box hr
                                      obtain ⟨gp, offp, hb, cp0, _⟩ := QP0.out m hmt
                                      subst hb
                                      rw [hr] at cp0
                                      have CP := box cp0
                                      clear hr cp0
                                      obtain ⟨mt, hmt2⟩ : ∃ mt, matchP k rr.data.toList v.data.toList = mt := ⟨_, rfl⟩
                                      have HMT := box hmt2
                                      clear hmt2
                                      have y0 := (BL.out.cell (cell_lt CP.out)).trans CP.out
                                      have y1 := (BL.out.cell (cell_lt CA.out)).trans CA.out
                                      have y2 := (BL.out.cell (cell_lt CV.out)).trans CV.out
                                      by_cases hge : 0 ≤ mt
                                      · go_wp2
                                        refine wp_region_held_drew (S := (fun w' : World => (w'.cell? ⟨gp, offp + m * 2, none⟩ = some (.string rr) ∧ w'.cell? ⟨g, off + i * 2 + 1, none⟩ = some (.slice (some ⟨gv, offv, none⟩) nv c) ∧ w'.cell? ⟨gv, offv + j, none⟩ = some (.string v)) ∧ Box (Below wp.heap.size wp w'))) (by kernel_rfl) ⟨⟨(BL.out.cell (cell_lt CP.out)).trans CP.out, (BL.out.cell (cell_lt CA.out)).trans CA.out, (BL.out.cell (cell_lt CV.out)).trans CV.out⟩, box BL.out.drew⟩ (fun hHeld => ?_)
                                        refine wpAnyH_take (i := 0) (oi := { dst := some 134, op := Op.move (Operand.tmp 15), type := 3, pos := "law.go:90", after := #[], guard := none }) (v := ?v0zd) rfl (by kernel_rfl) (by kernel_rfl) (by kernel_rfl) (fun _ _ _ h => h) (Or.inl ⟨by rfl, ?y0zd⟩) (by assumption) ?r0zd
                                        case y0zd => (intro w hSw; (try dsimp only at hSw); go_simp; first | done | with_reducible rfl)
                                        try simp only [Act.put, List.setIfInBounds_toArray, List.set_cons_zero, List.set_cons_succ]
                                        refine wpAnyH_take (i := 1) (oi := { dst := some 135, op := Op.move (Operand.tmp 17), type := 50, pos := "law.go:90", after := #[], guard := none }) (v := ?v1zd) rfl (by kernel_rfl) (by kernel_rfl) (by kernel_rfl) (fun _ _ _ h => h) (Or.inl ⟨by rfl, ?y1zd⟩) (by assumption) ?r1zd
                                        case y1zd => (intro w hSw; (try dsimp only at hSw); go_simp; first | done | with_reducible rfl)
                                        try simp only [Act.put, List.setIfInBounds_toArray, List.set_cons_zero, List.set_cons_succ]
                                        refine wpAnyH_take (i := 2) (oi := { dst := some 136, op := Op.move (Operand.tmp 20), type := 3, pos := "law.go:90", after := #[], guard := none }) (v := ?v2zd) rfl (by kernel_rfl) (by kernel_rfl) (by kernel_rfl) (fun _ _ _ h => h) (Or.inl ⟨by rfl, ?y2zd⟩) (by assumption) ?r2zd
                                        case y2zd => (intro w hSw; (try dsimp only at hSw); go_simp; first | done | with_reducible rfl)
                                        try simp only [Act.put, List.setIfInBounds_toArray, List.set_cons_zero, List.set_cons_succ]
                                        refine wpAnyH_take (i := 3) (oi := { dst := some 137, op := Op.indexAddr 50 (Operand.tmp 135) (Operand.tmp 136), type := 0, pos := "law.go:90", after := #[{ on := 1, ground := Ground.data }, { on := 2, ground := Ground.data }], guard := none }) (v := ?v3zd) rfl (by kernel_rfl) (by kernel_rfl) (by kernel_rfl) (fun _ _ _ h => h) (Or.inl ⟨by rfl, ?y3zd⟩) (by assumption) ?r3zd
                                        case y3zd => (intro w hSw; (try dsimp only at hSw); go_simp; first | done | with_reducible rfl)
                                        try simp only [Act.put, List.setIfInBounds_toArray, List.set_cons_zero, List.set_cons_succ]
                                        refine wpAnyH_take (i := 4) (oi := { dst := some 138, op := Op.fieldAddr 55 (Operand.tmp 137) 0, type := 0, pos := "law.go:90", after := #[{ on := 3, ground := Ground.data }], guard := none }) (v := ?v4zd) rfl (by kernel_rfl) (by kernel_rfl) (by kernel_rfl) (fun _ _ _ h => h) (Or.inl ⟨by rfl, ?y4zd⟩) (by assumption) ?r4zd
                                        case y4zd => (intro w hSw; (try dsimp only at hSw); go_simp; first | done | with_reducible rfl)
                                        try simp only [Act.put, List.setIfInBounds_toArray, List.set_cons_zero, List.set_cons_succ]
                                        refine wpAnyH_take (i := 5) (oi := { dst := some 139, op := Op.load 9 (Operand.tmp 138), type := 9, pos := "law.go:90", after := #[{ on := 4, ground := Ground.data }], guard := none }) (v := ?v5zd) rfl (by kernel_rfl) (by kernel_rfl) (by kernel_rfl) (fun _ _ _ h => h) (Or.inl ⟨by rfl, ?y5zd⟩) (by assumption) ?r5zd
                                        case y5zd => (intro w hSw; (try dsimp only at hSw); go_simp; first | done | with_reducible rfl)
                                        try simp only [Act.put, List.setIfInBounds_toArray, List.set_cons_zero, List.set_cons_succ]
                                        refine wpAnyH_take (i := 6) (oi := { dst := some 140, op := Op.move (Operand.tmp 0), type := 22, pos := "law.go:90", after := #[], guard := none }) (v := ?v6zd) rfl (by kernel_rfl) (by kernel_rfl) (by kernel_rfl) (fun _ _ _ h => h) (Or.inl ⟨by rfl, ?y6zd⟩) (by assumption) ?r6zd
                                        case y6zd => (intro w hSw; (try dsimp only at hSw); go_simp; first | done | with_reducible rfl)
                                        try simp only [Act.put, List.setIfInBounds_toArray, List.set_cons_zero, List.set_cons_succ]
                                        refine wpAnyH_take (i := 7) (oi := { dst := some 141, op := Op.move (Operand.tmp 2), type := 3, pos := "law.go:90", after := #[], guard := none }) (v := ?v7zd) rfl (by kernel_rfl) (by kernel_rfl) (by kernel_rfl) (fun _ _ _ h => h) (Or.inl ⟨by rfl, ?y7zd⟩) (by assumption) ?r7zd
                                        case y7zd => (intro w hSw; (try dsimp only at hSw); go_simp; first | done | with_reducible rfl)
                                        try simp only [Act.put, List.setIfInBounds_toArray, List.set_cons_zero, List.set_cons_succ]
                                        refine wpAnyH_take (i := 8) (oi := { dst := some 142, op := Op.indexAddr 22 (Operand.tmp 140) (Operand.tmp 141), type := 0, pos := "law.go:90", after := #[{ on := 6, ground := Ground.data }, { on := 7, ground := Ground.data }], guard := none }) (v := ?v8zd) rfl (by kernel_rfl) (by kernel_rfl) (by kernel_rfl) (fun _ _ _ h => h) (Or.inl ⟨by rfl, ?y8zd⟩) (by assumption) ?r8zd
                                        case y8zd => (intro w hSw; (try dsimp only at hSw); go_simp; first | done | with_reducible rfl)
                                        try simp only [Act.put, List.setIfInBounds_toArray, List.set_cons_zero, List.set_cons_succ]
                                        refine wpAnyH_take (i := 9) (oi := { dst := some 143, op := Op.fieldAddr 39 (Operand.tmp 142) 1, type := 0, pos := "law.go:90", after := #[{ on := 8, ground := Ground.data }], guard := none }) (v := ?v9zd) rfl (by kernel_rfl) (by kernel_rfl) (by kernel_rfl) (fun _ _ _ h => h) (Or.inl ⟨by rfl, ?y9zd⟩) (by assumption) ?r9zd
                                        case y9zd => (intro w hSw; (try dsimp only at hSw); go_simp; first | done | with_reducible rfl)
                                        try simp only [Act.put, List.setIfInBounds_toArray, List.set_cons_zero, List.set_cons_succ]
                                        refine wpAnyH_take (i := 10) (oi := { dst := some 144, op := Op.load 29 (Operand.tmp 143), type := 29, pos := "law.go:90", after := #[{ on := 9, ground := Ground.data }], guard := none }) (v := ?v10zd) rfl (by kernel_rfl) (by kernel_rfl) (by kernel_rfl) (fun _ _ _ h => h) (Or.inl ⟨by rfl, ?y10zd⟩) (by assumption) ?r10zd
                                        case y10zd => (intro w hSw; (try dsimp only at hSw); go_simp; first | done | with_reducible rfl)
                                        try simp only [Act.put, List.setIfInBounds_toArray, List.set_cons_zero, List.set_cons_succ]
                                        refine wpAnyH_take (i := 11) (oi := { dst := some 145, op := Op.move (Operand.tmp 19), type := 3, pos := "law.go:90", after := #[], guard := none }) (v := ?v11zd) rfl (by kernel_rfl) (by kernel_rfl) (by kernel_rfl) (fun _ _ _ h => h) (Or.inl ⟨by rfl, ?y11zd⟩) (by assumption) ?r11zd
                                        case y11zd => (intro w hSw; (try dsimp only at hSw); go_simp; first | done | with_reducible rfl)
                                        try simp only [Act.put, List.setIfInBounds_toArray, List.set_cons_zero, List.set_cons_succ]
                                        refine wpAnyH_take (i := 12) (oi := { dst := some 146, op := Op.indexAddr 29 (Operand.tmp 144) (Operand.tmp 145), type := 0, pos := "law.go:90", after := #[{ on := 10, ground := Ground.data }, { on := 11, ground := Ground.data }], guard := none }) (v := ?v12zd) rfl (by kernel_rfl) (by kernel_rfl) (by kernel_rfl) (fun _ _ _ h => h) (Or.inl ⟨by rfl, ?y12zd⟩) (by assumption) ?r12zd
                                        case y12zd => (intro w hSw; (try dsimp only at hSw); go_simp; first | done | with_reducible rfl)
                                        try simp only [Act.put, List.setIfInBounds_toArray, List.set_cons_zero, List.set_cons_succ]
                                        refine wpAnyH_take (i := 13) (oi := { dst := some 147, op := Op.load 9 (Operand.tmp 146), type := 9, pos := "law.go:90", after := #[{ on := 12, ground := Ground.data }], guard := none }) (v := ?v13zd) rfl (by kernel_rfl) (by kernel_rfl) (by kernel_rfl) (fun _ _ _ h => h) (Or.inl ⟨by rfl, ?y13zd⟩) (by assumption) ?r13zd
                                        case y13zd => (intro w hSw; (try dsimp only at hSw); go_simp; first | done | with_reducible rfl)
                                        try simp only [Act.put, List.setIfInBounds_toArray, List.set_cons_zero, List.set_cons_succ]
                                        refine wpAnyH_ready (rs := [14]) (by kernel_rfl) (by simp) ?_
                                        refine AllReadyH.cons (o := { dst := some 148, op := Op.call { callee := Callee.value (Operand.func 33), args := #[Operand.tmp 134, Operand.tmp 139, Operand.tmp 147], argTypes := #[3, 9, 9] }, type := 3, pos := "law.go:90", after := #[{ on := 0, ground := Ground.data }, { on := 5, ground := Ground.data }, { on := 13, ground := Ground.data }], guard := none }) rfl (fun K hK => ?_) AllReadyH.nil
                                        go_simp
                                        refine (rMatch14_is hki hrz hvz HMT).mono ?_; rintro e w9 ⟨rfl, hb9⟩
                                        have B9 := box (hHeld.2.out.trans (hb9.mono hHeld.2.out.size))
                                        clear hb9
                                        go_wp2_with fail
                                        refine hK.out _ _ ⟨⟨(B9.out.cell (cell_lt CP.out)).trans CP.out, (B9.out.cell (cell_lt CA.out)).trans CA.out, (B9.out.cell (cell_lt CV.out)).trans CV.out⟩, B9⟩ (fun hHeld => ?_)
                                        clear hK K
                                        try simp only [Act.put, List.setIfInBounds_toArray, List.set_cons_zero, List.set_cons_succ]
                                        refine wpAnyH_take (i := 15) (oi := { dst := some 149, op := Op.binOp BinOp.geq 3 (Operand.tmp 148) (Operand.const (Value.int IntKind.i64 0)) 3, type := 4, pos := "law.go:90", after := #[{ on := 14, ground := Ground.data }], guard := none }) (v := ?v15zd) rfl (by kernel_rfl) (by kernel_rfl) (by kernel_rfl) (fun _ _ _ h => h) (Or.inl ⟨by rfl, ?y15zd⟩) (by assumption) ?r15zd
                                        case y15zd => (intro w hSw; (try dsimp only at hSw); go_simp; first | done | with_reducible rfl)
                                        try simp only [Act.put, List.setIfInBounds_toArray, List.set_cons_zero, List.set_cons_succ]
                                        refine wpAnyH_done (by kernel_rfl) ?_ _
                                        go_wp2
                                        go_ret
                                        exact ⟨rfl, BP.out.trans (B9.out.mono hsp)⟩
                                      · go_wp2
                                        refine wp_region_held_drew (S := (fun w' : World => (w'.cell? ⟨gp, offp + m * 2, none⟩ = some (.string rr) ∧ w'.cell? ⟨g, off + i * 2 + 1, none⟩ = some (.slice (some ⟨gv, offv, none⟩) nv c) ∧ w'.cell? ⟨gv, offv + j, none⟩ = some (.string v)) ∧ Box (Below wp.heap.size wp w'))) (by kernel_rfl) ⟨⟨(BL.out.cell (cell_lt CP.out)).trans CP.out, (BL.out.cell (cell_lt CA.out)).trans CA.out, (BL.out.cell (cell_lt CV.out)).trans CV.out⟩, box BL.out.drew⟩ (fun hHeld => ?_)
                                        refine wpAnyH_take (i := 0) (oi := { dst := some 134, op := Op.move (Operand.tmp 15), type := 3, pos := "law.go:90", after := #[], guard := none }) (v := ?v0zg) rfl (by kernel_rfl) (by kernel_rfl) (by kernel_rfl) (fun _ _ _ h => h) (Or.inl ⟨by rfl, ?y0zg⟩) (by assumption) ?r0zg
                                        case y0zg => (intro w hSw; (try dsimp only at hSw); go_simp; first | done | with_reducible rfl)
                                        try simp only [Act.put, List.setIfInBounds_toArray, List.set_cons_zero, List.set_cons_succ]
                                        refine wpAnyH_take (i := 1) (oi := { dst := some 135, op := Op.move (Operand.tmp 17), type := 50, pos := "law.go:90", after := #[], guard := none }) (v := ?v1zg) rfl (by kernel_rfl) (by kernel_rfl) (by kernel_rfl) (fun _ _ _ h => h) (Or.inl ⟨by rfl, ?y1zg⟩) (by assumption) ?r1zg
                                        case y1zg => (intro w hSw; (try dsimp only at hSw); go_simp; first | done | with_reducible rfl)
                                        try simp only [Act.put, List.setIfInBounds_toArray, List.set_cons_zero, List.set_cons_succ]
                                        refine wpAnyH_take (i := 2) (oi := { dst := some 136, op := Op.move (Operand.tmp 20), type := 3, pos := "law.go:90", after := #[], guard := none }) (v := ?v2zg) rfl (by kernel_rfl) (by kernel_rfl) (by kernel_rfl) (fun _ _ _ h => h) (Or.inl ⟨by rfl, ?y2zg⟩) (by assumption) ?r2zg
                                        case y2zg => (intro w hSw; (try dsimp only at hSw); go_simp; first | done | with_reducible rfl)
                                        try simp only [Act.put, List.setIfInBounds_toArray, List.set_cons_zero, List.set_cons_succ]
                                        refine wpAnyH_take (i := 3) (oi := { dst := some 137, op := Op.indexAddr 50 (Operand.tmp 135) (Operand.tmp 136), type := 0, pos := "law.go:90", after := #[{ on := 1, ground := Ground.data }, { on := 2, ground := Ground.data }], guard := none }) (v := ?v3zg) rfl (by kernel_rfl) (by kernel_rfl) (by kernel_rfl) (fun _ _ _ h => h) (Or.inl ⟨by rfl, ?y3zg⟩) (by assumption) ?r3zg
                                        case y3zg => (intro w hSw; (try dsimp only at hSw); go_simp; first | done | with_reducible rfl)
                                        try simp only [Act.put, List.setIfInBounds_toArray, List.set_cons_zero, List.set_cons_succ]
                                        refine wpAnyH_take (i := 4) (oi := { dst := some 138, op := Op.fieldAddr 55 (Operand.tmp 137) 0, type := 0, pos := "law.go:90", after := #[{ on := 3, ground := Ground.data }], guard := none }) (v := ?v4zg) rfl (by kernel_rfl) (by kernel_rfl) (by kernel_rfl) (fun _ _ _ h => h) (Or.inl ⟨by rfl, ?y4zg⟩) (by assumption) ?r4zg
                                        case y4zg => (intro w hSw; (try dsimp only at hSw); go_simp; first | done | with_reducible rfl)
                                        try simp only [Act.put, List.setIfInBounds_toArray, List.set_cons_zero, List.set_cons_succ]
                                        refine wpAnyH_take (i := 5) (oi := { dst := some 139, op := Op.load 9 (Operand.tmp 138), type := 9, pos := "law.go:90", after := #[{ on := 4, ground := Ground.data }], guard := none }) (v := ?v5zg) rfl (by kernel_rfl) (by kernel_rfl) (by kernel_rfl) (fun _ _ _ h => h) (Or.inl ⟨by rfl, ?y5zg⟩) (by assumption) ?r5zg
                                        case y5zg => (intro w hSw; (try dsimp only at hSw); go_simp; first | done | with_reducible rfl)
                                        try simp only [Act.put, List.setIfInBounds_toArray, List.set_cons_zero, List.set_cons_succ]
                                        refine wpAnyH_take (i := 6) (oi := { dst := some 140, op := Op.move (Operand.tmp 0), type := 22, pos := "law.go:90", after := #[], guard := none }) (v := ?v6zg) rfl (by kernel_rfl) (by kernel_rfl) (by kernel_rfl) (fun _ _ _ h => h) (Or.inl ⟨by rfl, ?y6zg⟩) (by assumption) ?r6zg
                                        case y6zg => (intro w hSw; (try dsimp only at hSw); go_simp; first | done | with_reducible rfl)
                                        try simp only [Act.put, List.setIfInBounds_toArray, List.set_cons_zero, List.set_cons_succ]
                                        refine wpAnyH_take (i := 7) (oi := { dst := some 141, op := Op.move (Operand.tmp 2), type := 3, pos := "law.go:90", after := #[], guard := none }) (v := ?v7zg) rfl (by kernel_rfl) (by kernel_rfl) (by kernel_rfl) (fun _ _ _ h => h) (Or.inl ⟨by rfl, ?y7zg⟩) (by assumption) ?r7zg
                                        case y7zg => (intro w hSw; (try dsimp only at hSw); go_simp; first | done | with_reducible rfl)
                                        try simp only [Act.put, List.setIfInBounds_toArray, List.set_cons_zero, List.set_cons_succ]
                                        refine wpAnyH_take (i := 8) (oi := { dst := some 142, op := Op.indexAddr 22 (Operand.tmp 140) (Operand.tmp 141), type := 0, pos := "law.go:90", after := #[{ on := 6, ground := Ground.data }, { on := 7, ground := Ground.data }], guard := none }) (v := ?v8zg) rfl (by kernel_rfl) (by kernel_rfl) (by kernel_rfl) (fun _ _ _ h => h) (Or.inl ⟨by rfl, ?y8zg⟩) (by assumption) ?r8zg
                                        case y8zg => (intro w hSw; (try dsimp only at hSw); go_simp; first | done | with_reducible rfl)
                                        try simp only [Act.put, List.setIfInBounds_toArray, List.set_cons_zero, List.set_cons_succ]
                                        refine wpAnyH_take (i := 9) (oi := { dst := some 143, op := Op.fieldAddr 39 (Operand.tmp 142) 1, type := 0, pos := "law.go:90", after := #[{ on := 8, ground := Ground.data }], guard := none }) (v := ?v9zg) rfl (by kernel_rfl) (by kernel_rfl) (by kernel_rfl) (fun _ _ _ h => h) (Or.inl ⟨by rfl, ?y9zg⟩) (by assumption) ?r9zg
                                        case y9zg => (intro w hSw; (try dsimp only at hSw); go_simp; first | done | with_reducible rfl)
                                        try simp only [Act.put, List.setIfInBounds_toArray, List.set_cons_zero, List.set_cons_succ]
                                        refine wpAnyH_take (i := 10) (oi := { dst := some 144, op := Op.load 29 (Operand.tmp 143), type := 29, pos := "law.go:90", after := #[{ on := 9, ground := Ground.data }], guard := none }) (v := ?v10zg) rfl (by kernel_rfl) (by kernel_rfl) (by kernel_rfl) (fun _ _ _ h => h) (Or.inl ⟨by rfl, ?y10zg⟩) (by assumption) ?r10zg
                                        case y10zg => (intro w hSw; (try dsimp only at hSw); go_simp; first | done | with_reducible rfl)
                                        try simp only [Act.put, List.setIfInBounds_toArray, List.set_cons_zero, List.set_cons_succ]
                                        refine wpAnyH_take (i := 11) (oi := { dst := some 145, op := Op.move (Operand.tmp 19), type := 3, pos := "law.go:90", after := #[], guard := none }) (v := ?v11zg) rfl (by kernel_rfl) (by kernel_rfl) (by kernel_rfl) (fun _ _ _ h => h) (Or.inl ⟨by rfl, ?y11zg⟩) (by assumption) ?r11zg
                                        case y11zg => (intro w hSw; (try dsimp only at hSw); go_simp; first | done | with_reducible rfl)
                                        try simp only [Act.put, List.setIfInBounds_toArray, List.set_cons_zero, List.set_cons_succ]
                                        refine wpAnyH_take (i := 12) (oi := { dst := some 146, op := Op.indexAddr 29 (Operand.tmp 144) (Operand.tmp 145), type := 0, pos := "law.go:90", after := #[{ on := 10, ground := Ground.data }, { on := 11, ground := Ground.data }], guard := none }) (v := ?v12zg) rfl (by kernel_rfl) (by kernel_rfl) (by kernel_rfl) (fun _ _ _ h => h) (Or.inl ⟨by rfl, ?y12zg⟩) (by assumption) ?r12zg
                                        case y12zg => (intro w hSw; (try dsimp only at hSw); go_simp; first | done | with_reducible rfl)
                                        try simp only [Act.put, List.setIfInBounds_toArray, List.set_cons_zero, List.set_cons_succ]
                                        refine wpAnyH_take (i := 13) (oi := { dst := some 147, op := Op.load 9 (Operand.tmp 146), type := 9, pos := "law.go:90", after := #[{ on := 12, ground := Ground.data }], guard := none }) (v := ?v13zg) rfl (by kernel_rfl) (by kernel_rfl) (by kernel_rfl) (fun _ _ _ h => h) (Or.inl ⟨by rfl, ?y13zg⟩) (by assumption) ?r13zg
                                        case y13zg => (intro w hSw; (try dsimp only at hSw); go_simp; first | done | with_reducible rfl)
                                        try simp only [Act.put, List.setIfInBounds_toArray, List.set_cons_zero, List.set_cons_succ]
                                        refine wpAnyH_ready (rs := [14]) (by kernel_rfl) (by simp) ?_
                                        refine AllReadyH.cons (o := { dst := some 148, op := Op.call { callee := Callee.value (Operand.func 33), args := #[Operand.tmp 134, Operand.tmp 139, Operand.tmp 147], argTypes := #[3, 9, 9] }, type := 3, pos := "law.go:90", after := #[{ on := 0, ground := Ground.data }, { on := 5, ground := Ground.data }, { on := 13, ground := Ground.data }], guard := none }) rfl (fun K hK => ?_) AllReadyH.nil
                                        go_simp
                                        refine (rMatch14_is hki hrz hvz HMT).mono ?_; rintro e w9 ⟨rfl, hb9⟩
                                        have B9 := box (hHeld.2.out.trans (hb9.mono hHeld.2.out.size))
                                        clear hb9
                                        go_wp2_with fail
                                        refine hK.out _ _ ⟨⟨(B9.out.cell (cell_lt CP.out)).trans CP.out, (B9.out.cell (cell_lt CA.out)).trans CA.out, (B9.out.cell (cell_lt CV.out)).trans CV.out⟩, B9⟩ (fun hHeld => ?_)
                                        clear hK K
                                        try simp only [Act.put, List.setIfInBounds_toArray, List.set_cons_zero, List.set_cons_succ]
                                        refine wpAnyH_take (i := 15) (oi := { dst := some 149, op := Op.binOp BinOp.geq 3 (Operand.tmp 148) (Operand.const (Value.int IntKind.i64 0)) 3, type := 4, pos := "law.go:90", after := #[{ on := 14, ground := Ground.data }], guard := none }) (v := ?v15zg) rfl (by kernel_rfl) (by kernel_rfl) (by kernel_rfl) (fun _ _ _ h => h) (Or.inl ⟨by rfl, ?y15zg⟩) (by assumption) ?r15zg
                                        case y15zg => (intro w hSw; (try dsimp only at hSw); go_simp; first | done | with_reducible rfl)
                                        try simp only [Act.put, List.setIfInBounds_toArray, List.set_cons_zero, List.set_cons_succ]
                                        refine wpAnyH_done (by kernel_rfl) ?_ _
                                        go_wp2
                                        go_roundw
                                        case rel => exact ⟨m + 1, by omega, by go_num, um_more HNM.out hmt HRR.out HMT.out (by omega), B9⟩
                                        case measure => simp [intOf]; omega
                                    · have hmi : ¬ (m : Int) < (P.length : Int) := by omega
                                      have HALL := box (um_all HNM.out hmt hjV HVV.out HNO.out)
                                      go_wp2
                                      go_roundw
                                      case rel => exact ⟨j + 1, by have := HNV.out; omega, by go_num, HALL.out, BL⟩
                                      case measure => simp [intOf]; omega
                                · have hji : ¬ (j : Int) < (nv : Int) := by omega
                                  have HALL : Box (∀ p ∈ P, ∀ v ∈ V, matchP k p.1.data.toList v.data.toList < 0) := box (un_all HNO.out (by have := HNV.out; omega))
                                  obtain ⟨HS1, HS2⟩ := (HSAME.out HALL.out)
                                  have HS1b := box HS1
                                  have HS2b := box HS2
                                  clear HS1 HS2
                                  obtain ⟨ws, rfl⟩ : ∃ ws, ws = wl := ⟨_, rfl⟩
                                  have BW := box (BP.out.trans (BL0.out.mono hsp))
                                  have hsw := BW.out.size
                                  have g0 := (BL0.out.cell (cell_lt G0.out)).trans G0.out
                                  have g1 := (BL0.out.cell (cell_lt G1.out)).trans G1.out
                                  have FS := box (hF.out.below BW.out)
                                  go_upto_region 16 with fail
                                  go_cut [21] from 100 (fun s21 wx => ∃ a7 m7 c7, s21 = .slice a7 m7 c7 ∧ Box ((L ++ [(n, x)]).length = m7) ∧ Box (Fs wx a7 (L ++ [(n, x)])) ∧ Box (Below ws.heap.size ws wx))
                                  case first =>
                                    go_wp2_with fail
                                    have BS0 := box ((Below.refl ws.heap.size ws).drew)
                                    refine wp_region_held_drew (S := (fun w' : World => (w'.cell? ⟨G, 0, none⟩ = some (.string n) ∧ w'.cell? ⟨G, 1, none⟩ = some (.string x)) ∧ Box (Below ws.heap.size ws w'))) (by kernel_rfl) ⟨⟨g0, g1⟩, box (Below.refl ws.heap.size ws).drew⟩ (fun hHeld => ?_)
                                    refine wpAnyH_take (i := 0) (oi := { dst := some 150, op := Op.move (Operand.tmp 1), type := 23, pos := "law.go:95", after := #[], guard := none }) (v := ?v0ze) rfl (by kernel_rfl) (by kernel_rfl) (by kernel_rfl) (fun _ _ _ h => h) (Or.inl ⟨by rfl, ?y0ze⟩) (by assumption) ?r0ze
                                    case y0ze => (intro w hSw; (try dsimp only at hSw); go_simp; first | done | with_reducible rfl)
                                    try simp only [Act.put, List.setIfInBounds_toArray, List.set_cons_zero, List.set_cons_succ]
                                    refine wpAnyH_take (i := 2) (oi := { dst := some 152, op := Op.load 42 (Operand.tmp 16), type := 42, pos := "law.go:95", after := #[], guard := none }) (v := ?v2ze) rfl (by kernel_rfl) (by kernel_rfl) (by kernel_rfl) (fun _ _ _ h => h) (Or.inl ⟨by rfl, ?y2ze⟩) (by assumption) ?r2ze
                                    case y2ze => (intro w hSw; (try dsimp only at hSw); go_simp; first | done | with_reducible rfl)
                                    try simp only [Act.put, List.setIfInBounds_toArray, List.set_cons_zero, List.set_cons_succ]
                                    refine wpAnyH_ready (rs := [1, 3]) (by kernel_rfl) (by simp) ?_
                                    refine AllReadyH.cons (o := { dst := some 151, op := Op.call { callee := Callee.builtin Builtin.append, args := #[Operand.const (Value.slice none 0 0), Operand.tmp 150], argTypes := #[23, 23] }, type := 23, pos := "law.go:95", after := #[{ on := 0, ground := Ground.data }], guard := none }) rfl (fun K hK => ?_) (AllReadyH.cons (o := { dst := some 153, op := Op.buildSlice 23 1 #[(0, Operand.tmp 152)], type := 23, pos := "law.go:95", after := #[{ on := 2, ground := Ground.data }], guard := none }) rfl (fun K hK => ?_) AllReadyH.nil)
                                    · refine step_append_flds _ rfl (.const (.slice none 0 0)) (.tmp 150) rfl ws.heap.size (.slice none 0 0) [] L rfl (OwnF.nil _ _) a nl ca rfl HNL.out hcn.out (FS.out.below BS0.out) (Nat.zero_le _) l6 BS0.out.size ?_
                                      intro v6 w6 hO6 hb6
                                      have BS1 := box (BS0.out.trans hb6)
                                      refine hK.out _ _ ⟨⟨(BS1.out.cell (cell_lt g0)).trans g0, (BS1.out.cell (cell_lt g1)).trans g1⟩, box BS1.out⟩ (fun hHeld => ?_)
                                      clear hK K
                                      try simp only [Act.put, List.setIfInBounds_toArray, List.set_cons_zero, List.set_cons_succ]
                                      refine wpAnyH_ready (rs := [3]) (by kernel_rfl) (by simp) ?_
                                      refine AllReadyH.cons (o := { dst := some 153, op := Op.buildSlice 23 1 #[(0, Operand.tmp 152)], type := 23, pos := "law.go:95", after := #[{ on := 2, ground := Ground.data }], guard := none }) rfl (fun K hK => ?_) AllReadyH.nil
                                      go_simp
                                      have BS2 := box (BS1.out.alloc BS1.out.size (.cells #[.string n, .string x] 42))
                                      go_wp2_with fail
                                      refine hK.out _ _ ⟨⟨(BS2.out.cell (cell_lt g0)).trans g0, (BS2.out.cell (cell_lt g1)).trans g1⟩, box BS2.out⟩ (fun hHeld => ?_)
                                      clear hK K
                                      try simp only [Act.put, List.setIfInBounds_toArray, List.set_cons_zero, List.set_cons_succ]
                                      refine wpAnyH_ready (rs := [4]) (by kernel_rfl) (by simp) ?_
                                      refine AllReadyH.cons (o := { dst := some 154, op := Op.call { callee := Callee.builtin Builtin.append, args := #[Operand.tmp 151, Operand.tmp 153], argTypes := #[23, 23] }, type := 23, pos := "law.go:95", after := #[{ on := 1, ground := Ground.data }, { on := 3, ground := Ground.data }, { on := 1, ground := Ground.chain }], guard := none }) rfl (fun K hK => ?_) AllReadyH.nil
                                      refine step_append_fld _ rfl (.tmp 151) (.tmp 153) rfl ws.heap.size v6 L rfl ?a11A _ _ rfl n x ?b11A ?e11A l6 ?d11A ?_
                                      case a11A => exact own_below hO6 (below_new _ _)
                                      case b11A => exact (World.cell?_alloc_at (w := w6) #[.string n, .string x] 42 w6.heap.size 0 rfl).trans rfl
                                      case e11A => exact (World.cell?_alloc_at (w := w6) #[.string n, .string x] 42 w6.heap.size 1 rfl).trans rfl
                                      case d11A => exact BS2.out.size
                                      intro v7 w7 hO7 hb7
                                      have BS3 := box (BS2.out.trans hb7)
                                      obtain ⟨a7, c7, rfl, hS7, _⟩ := OwnF.fs hO7
                                      have S7 := box hS7
                                      refine hK.out _ _ ⟨⟨(BS3.out.cell (cell_lt g0)).trans g0, (BS3.out.cell (cell_lt g1)).trans g1⟩, box BS3.out⟩ (fun hHeld => ?_)
                                      clear hK K
                                      try simp only [Act.put, List.setIfInBounds_toArray, List.set_cons_zero, List.set_cons_succ]
                                      refine wpAnyH_take (i := 5) (oi := { dst := some 21, op := Op.assign (Operand.tmp 154), type := 23, pos := "law.go:95", after := #[{ on := 4, ground := Ground.data }, { on := 4, ground := Ground.chain }, { on := 0, ground := Ground.phase }, { on := 1, ground := Ground.phase }, { on := 2, ground := Ground.phase }, { on := 3, ground := Ground.phase }, { on := 4, ground := Ground.phase }], guard := none }) (v := ?v5zfA) rfl (by kernel_rfl) (by kernel_rfl) (by kernel_rfl) (fun _ _ _ h => h) (Or.inl ⟨by rfl, ?y5zfA⟩) (by assumption) ?r5zfA
                                      case y5zfA => (intro w hSw; (try dsimp only at hSw); go_simp; first | done | with_reducible rfl)
                                      try simp only [Act.put, List.setIfInBounds_toArray, List.set_cons_zero, List.set_cons_succ]
                                      refine wpAnyH_done (by kernel_rfl) ?_ _
                                      clear hO7 hb7 hb6 hO6 hS7 hHeld
                                      go_wp2
                                      go_meet
                                      case rel => exact ⟨a7, _, c7, rfl, box (by simp), S7, BS3⟩
                                    · go_simp
                                      have BS1 := box (BS0.out.alloc BS0.out.size (.cells #[.string n, .string x] 42))
                                      go_wp2_with fail
                                      refine hK.out _ _ ⟨⟨(BS1.out.cell (cell_lt g0)).trans g0, (BS1.out.cell (cell_lt g1)).trans g1⟩, box BS1.out⟩ (fun hHeld => ?_)
                                      clear hK K
                                      try simp only [Act.put, List.setIfInBounds_toArray, List.set_cons_zero, List.set_cons_succ]
                                      have c62 : (ws.drew.alloc (.cells #[.string n, .string x] 42)).cell? ⟨ws.drew.heap.size, 0, none⟩ = some (.string n) := (World.cell?_alloc_at (w := ws.drew) #[.string n, .string x] 42 ws.drew.heap.size 0 rfl).trans rfl
                                      have d62 : (ws.drew.alloc (.cells #[.string n, .string x] 42)).cell? ⟨ws.drew.heap.size, 1, none⟩ = some (.string x) := (World.cell?_alloc_at (w := ws.drew) #[.string n, .string x] 42 ws.drew.heap.size 1 rfl).trans rfl
                                      refine wpAnyH_ready (rs := [1]) (by kernel_rfl) (by simp) ?_
                                      refine AllReadyH.cons (o := { dst := some 151, op := Op.call { callee := Callee.builtin Builtin.append, args := #[Operand.const (Value.slice none 0 0), Operand.tmp 150], argTypes := #[23, 23] }, type := 23, pos := "law.go:95", after := #[{ on := 0, ground := Ground.data }], guard := none }) rfl (fun K hK => ?_) AllReadyH.nil
                                      refine step_append_flds _ rfl (.const (.slice none 0 0)) (.tmp 150) rfl (ws.drew.alloc (.cells #[.string n, .string x] 42)).heap.size (.slice none 0 0) [] L rfl (OwnF.nil _ _) a nl ca rfl HNL.out hcn.out (FS.out.below BS1.out) (Nat.zero_le _) l6 (Nat.le_refl _) ?_
                                      intro v6 w6 hO6 hb6
                                      have BS2 := box (BS1.out.trans (hb6.mono BS1.out.size))
                                      refine hK.out _ _ ⟨⟨(BS2.out.cell (cell_lt g0)).trans g0, (BS2.out.cell (cell_lt g1)).trans g1⟩, box BS2.out⟩ (fun hHeld => ?_)
                                      clear hK K
                                      try simp only [Act.put, List.setIfInBounds_toArray, List.set_cons_zero, List.set_cons_succ]
                                      refine wpAnyH_ready (rs := [4]) (by kernel_rfl) (by simp) ?_
                                      refine AllReadyH.cons (o := { dst := some 154, op := Op.call { callee := Callee.builtin Builtin.append, args := #[Operand.tmp 151, Operand.tmp 153], argTypes := #[23, 23] }, type := 23, pos := "law.go:95", after := #[{ on := 1, ground := Ground.data }, { on := 3, ground := Ground.data }, { on := 1, ground := Ground.chain }], guard := none }) rfl (fun K hK => ?_) AllReadyH.nil
                                      refine step_append_fld _ rfl (.tmp 151) (.tmp 153) rfl (ws.drew.alloc (.cells #[.string n, .string x] 42)).heap.size v6 L rfl ?a11B _ _ rfl n x ?b11B ?e11B l6 ?d11B ?_
                                      case a11B => exact hO6
                                      case b11B => exact (hb6.cell (cell_lt c62)).trans c62
                                      case e11B => exact (hb6.cell (cell_lt d62)).trans d62
                                      case d11B => exact hb6.size
                                      intro v7 w7 hO7 hb7
                                      have BS3 := box (BS2.out.trans (hb7.mono BS1.out.size))
                                      obtain ⟨a7, c7, rfl, hS7, _⟩ := OwnF.fs hO7
                                      have S7 := box hS7
                                      refine hK.out _ _ ⟨⟨(BS3.out.cell (cell_lt g0)).trans g0, (BS3.out.cell (cell_lt g1)).trans g1⟩, box BS3.out⟩ (fun hHeld => ?_)
                                      clear hK K
                                      try simp only [Act.put, List.setIfInBounds_toArray, List.set_cons_zero, List.set_cons_succ]
                                      refine wpAnyH_take (i := 5) (oi := { dst := some 21, op := Op.assign (Operand.tmp 154), type := 23, pos := "law.go:95", after := #[{ on := 4, ground := Ground.data }, { on := 4, ground := Ground.chain }, { on := 0, ground := Ground.phase }, { on := 1, ground := Ground.phase }, { on := 2, ground := Ground.phase }, { on := 3, ground := Ground.phase }, { on := 4, ground := Ground.phase }], guard := none }) (v := ?v5zfB) rfl (by kernel_rfl) (by kernel_rfl) (by kernel_rfl) (fun _ _ _ h => h) (Or.inl ⟨by rfl, ?y5zfB⟩) (by assumption) ?r5zfB
                                      case y5zfB => (intro w hSw; (try dsimp only at hSw); go_simp; first | done | with_reducible rfl)
                                      try simp only [Act.put, List.setIfInBounds_toArray, List.set_cons_zero, List.set_cons_succ]
                                      refine wpAnyH_done (by kernel_rfl) ?_ _
                                      clear hO7 hb7 hb6 hO6 hS7 hHeld c62 d62
                                      go_wp2
                                      go_meet
                                      case rel => exact ⟨a7, _, c7, rfl, box (by simp), S7, BS3⟩
                                  case rest =>
                                    obtain ⟨a7, m7, c7, rfl, HM7, S7, BS7⟩ := hcut
                                    have h0 := (BS7.out.cell (cell_lt g0)).trans g0
                                    have h1 := (BS7.out.cell (cell_lt g1)).trans g1
                                    have B7 := box (BW.out.trans (BS7.out.mono hsw))
                                    have hs7 := B7.out.size
                                    have F7 := box (hF.out.below B7.out)
                                    cases fi with
                                    | false =>
                                      clear h0 h1 g0 g1
                                      go_wp2_with fail
                                      refine (mSame18_is x6 ZX FL FM1 (hX.out.1.below B7.out) (hF.out.below B7.out) S7.out (HT.out.below B7.out) HS1b HNX HNL HM7).mono ?_; rintro e wa ⟨rfl, hba⟩
                                      have BA := box (B7.out.trans (hba.mono B7.out.size))
                                      clear hba
                                      go_wp2_with fail
                                      refine (awake18_any _ (HT.out.below BA.out)).mono ?_; rintro e wb ⟨rfl, hbb⟩
                                      have BB := box (BA.out.trans (hbb.mono BA.out.size))
                                      clear hbb
                                      go_wp2
                                      go_ret
                                      exact ⟨rfl, BB.out⟩
                                    | true =>
                                      go_wp2_with (at_builtin; refine wpList_append_flds17 _ rfl (.tmp 157) (.tmp 158) rfl wc.heap.size (.slice (some ⟨wc.heap.size, 0, none⟩) 1 1) [(n, x)] L rfl ?a9 a nl ca rfl HNL.out hcn.out ?b9 ?c9 l6 ?d9 ?_)
                                      case a9 => exact OwnF.one18 (Nat.le_refl _) n x
                                      case b9 => exact F7.out.below (below_new _ _)
                                      intro v9 w9 hO9 hb9
                                      have hO9b : OwnF w9 wc.heap.size v9 ((n, x) :: L) := hO9
                                      obtain ⟨a9, c9, rfl, hS9, _⟩ := OwnF.fs hO9b
                                      have S9 := box hS9
                                      have B9 := box (B7.out.trans (((below_new wc (.cells #[.string n, .string x] 42)).trans hb9).mono hs7))
                                      clear hO9 hO9b hb9 hS9 h0 h1 g0 g1
                                      go_wp2_with fail
                                      refine (mSame18_is x6 ZX FL FM2 (hX.out.1.below B9.out) (hF.out.below B9.out) S9.out (HT.out.below B9.out) HS2b HNX HNL (box rfl)).mono ?_; rintro e wa ⟨rfl, hba⟩
                                      have BA := box (B9.out.trans (hba.mono B9.out.size))
                                      clear hba
                                      go_wp2_with fail
                                      refine (awake18_any _ (HT.out.below BA.out)).mono ?_; rintro e wb ⟨rfl, hbb⟩
                                      have BB := box (BA.out.trans (hbb.mono BA.out.size))
                                      clear hbb
                                      go_wp2
                                      go_ret
                                      exact ⟨rfl, BB.out⟩
theorem unavail18_walk (p : Option Addr) (cp : Nat) (X : List AX) (a : Option Addr) (ca : Nat) (L : List F) (z : Int) (r : ByteArray) (q : Int) (fi st : Bool) (w : World) (hx0 : X.length ≤ maxLen) (hX : Axs w p X ∧ ∀ i (hi : i < X.length), X[i].2.length ≤ maxLen) (hcx : X.length ≤ cp) (hl0 : L.length ≤ maxLen) (hF : Fs w a L) (hcl : L.length ≤ ca ∧ (a = none → ca = 0)) (hz : (Lit.int .i64 z).wf = true) (hr : r.size ≤ maxLen) (hq : (Lit.int .i64 q).wf = true) (hW : Wts w) :
    Calls Tryz.prog 8 #[.slice p X.length cp, .slice a L.length ca, .int .i64 z, .string r, .int .i64 q, .bool fi, .bool st] w fun e w' => e = .returned (.bool true) ∧ Below w.heap.size w w' :=
  unavail18_in p cp _ X a ca _ L z r q fi st w (box hx0) (box hX) (box hl0) (box hF) (box hcl.2) (in13 hz) (in13 hq) hW (box rfl) (box rfl)
end
end Go.Proofs.YtklfpkaemnhdhaaGreatDoor.Asc
