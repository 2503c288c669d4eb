/- The walk of the law EtagLines: the loops. -/
import Derived.Test.YtchbhpfloinbdaaEtaLaws5
set_option linter.unusedVariables false
set_option linter.unusedSimpArgs false
set_option maxRecDepth 100000
namespace Go.Proofs.Ytchbhpfloinbdaa.Asc
open Go.RowKit

theorem lines21_short (a : Option Addr) (cap : Nat) (L : List ByteArray) (c : Int) (w : World) (HL : L.length ≤ maxLen) (F0 : Box (Ss w a L)) (b : Bool) (HK : Box (keepS L = b)) (h : b = false ∨ (b = true ∧ L.length < 1) ∨ (b = true ∧ ¬ L.length < 1 ∧ c < 0) ∨ (b = true ∧ ¬ L.length < 1 ∧ ¬ c < 0 ∧ (L.length : Int) < c)) :
    Calls Try.prog 7 #[.slice a L.length cap, .int .i64 c] w fun e w' => e = .returned (.bool true) ∧ Below w.heap.size w w' := by
  rcases h with rfl | ⟨rfl, h⟩ | ⟨rfl, h1, h⟩ | ⟨rfl, h1, h2, h⟩
  · go_enter Try.func7, Try.ntmps7
    go_wp2_with fail
    refine (keepStrings_any a cap L _ HL F0).mono ?_; rintro e w1 ⟨rfl, rfl⟩; rw [HK.out]
    go_wp2
    go_ret
    exact ⟨rfl, Below.refl _ _⟩
  · have i1 : (L.length : Int) < 1 := by omega
    clear h
    go_enter Try.func7, Try.ntmps7
    go_wp2_with fail
    refine (keepStrings_any a cap L _ HL F0).mono ?_; rintro e w1 ⟨rfl, rfl⟩; rw [HK.out]
    go_wp2
    go_ret
    exact ⟨rfl, Below.refl _ _⟩
  · have i1 : ¬ (L.length : Int) < 1 := by omega
    clear h1
    go_enter Try.func7, Try.ntmps7
    go_wp2_with fail
    refine (keepStrings_any a cap L _ HL F0).mono ?_; rintro e w1 ⟨rfl, rfl⟩; rw [HK.out]
    go_wp2
    go_ret
    exact ⟨rfl, Below.refl _ _⟩
  · have i1 : ¬ (L.length : Int) < 1 := by omega
    clear h1
    go_enter Try.func7, Try.ntmps7
    go_wp2_with fail
    refine (keepStrings_any a cap L _ HL F0).mono ?_; rintro e w1 ⟨rfl, rfl⟩; rw [HK.out]
    go_wp2
    go_ret
    exact ⟨rfl, Below.refl _ _⟩
theorem cell_new21 (w : World) (u : Value) (t : TypeId) : (w.alloc (.cells #[u] t)).cell? ⟨w.heap.size, 0, none⟩ = some u := by rw [World.cell?_alloc_mark]; rfl
theorem mod_odd (k : Nat) : ((k : Int) % 2 == 1) = oddB k := by
  unfold oddB
  rw [Bool.eq_iff_iff, beq_iff_eq, decide_eq_true_iff]; omega
theorem tmod_odd (k : Nat) : ((k : Int).tmod 2 == 1) = oddB k := by
  rw [Int.tmod_eq_emod_of_nonneg (by omega)]; exact mod_odd k
set_option maxHeartbeats 8000000 in
theorem lines21_in (a : Option Addr) (cap : Nat) (L : List ByteArray) (c : Nat) (w : World) (F0 : Box (Ss w a L)) (HK : Box (keepS L = true)) (h1 : 1 ≤ L.length) (h20 : L.length ≤ 20) (hz : Box (∀ x ∈ L, x.size ≤ 100)) (hc : c ≤ L.length) :
    Calls Try.prog 7 #[.slice a L.length cap, .int .i64 (c : Int)] w fun e w' => e = .returned (.bool true) ∧ Below w.heap.size w w' := by
  have HL : L.length ≤ maxLen := by unfold maxLen; omega
  have i1 : decide ((L.length : Int) < 1) = false := by rw [decide_eq_false_iff_not]; omega
  have i2 : decide ((c : Int) < 0) = false := by rw [decide_eq_false_iff_not]; omega
  have i3 : decide (L.length < c) = false := by rw [decide_eq_false_iff_not]; omega
  have HFL := box (fmtK_len L)
  have H1 := box h1
  clear h1
  go_enter Try.func7, Try.ntmps7
  go_wp2_with fail
  refine (keepStrings_any a cap L _ HL F0).mono ?_; rintro e w1 ⟨rfl, rfl⟩; rw [HK.out]
  go_wp2
  go_loopw [5, 6, 7, 8] (fun p q i _ wr => LinRel L c w p q i wr) (fun _ _ i _ _ => L.length - (intOf i).toNat)
  case atStart => exact ⟨0, w.heap.size, rfl, Nat.zero_le _, fun j h hj => absurd hj (by omega), by simpa using OwnS.nil _ _, fun g hg => by simp [Value.ownBlock] at hg, Nat.le_refl _, Nat.le_refl _, by simpa using OwnS.nil _ _, fun _ => rfl, Below.refl _ _⟩
  case round =>
    obtain ⟨k, B2, rfl, hk, hG, hP, hPb, hB2, hwB, hQ, hqn, hbel⟩ := hrel
    obtain ⟨P, hPe⟩ : ∃ P, (fmtK L).take (min k c) = P := ⟨_, rfl⟩
    obtain ⟨Q, hQe⟩ : ∃ Q, ((fmtK L).take k).drop c = Q := ⟨_, rfl⟩
    have HG := box hG
    have HPE := box hPe
    have HQE := box hQe
    rw [hPe] at hP
    rw [hQe] at hQ
    obtain ⟨pa, pc, rfl, hPS, _⟩ := hP.ss
    obtain ⟨qa, qc, rfl, hQS, _⟩ := hQ.ss
    have hpl : P.length ≤ 20 := by rw [← hPe, List.length_take, fmtK_len]; omega
    have hql : Q.length ≤ 20 := by rw [← hQe, List.length_drop, List.length_take, fmtK_len]; omega
    have P0 := box hP
    have Q0 := box hQ
    have PB := box hPb
    have QN := box hqn
    have BB := box (And.intro hB2 hwB)
    have BL := box hbel
    have SS := F0.out.below hbel
    have hwr : w.heap.size ≤ wr.heap.size := hbel.size
    clear hG hP hQ hPb hqn hB2 hwB hbel hPe hQe hPS hQS
    by_cases hlt : k < L.length
    · have hki : (k : Int) < (L.length : Int) := by omega
      obtain ⟨x, hx⟩ : ∃ x, L[k] = x := ⟨_, rfl⟩
      have hxz : x.size ≤ 65000 := by have := hz.out _ (List.getElem_mem hlt); rw [hx] at this; omega
      obtain ⟨g, off, rfl, cA⟩ := SS k hlt
      rw [hx] at cA
      obtain ⟨o, ho⟩ : ∃ o, oddB k = o := ⟨_, rfl⟩
      have hm := mod_odd k
      have hm2 := tmod_odd k
      rw [ho] at hm hm2
      clear SS
      cases ht : tagT x.data.toList with
      | false =>
        have HF : Box (bs (fmtL (o, x)) = ⟨#[]⟩) := box (by rw [fmt_empty ht]; rfl)
        clear ht hx ho
        go_wp2_with fail
        refine (rFmtE_is hxz HF).mono ?_; rintro e w3 ⟨rfl, hb3⟩
        have B3 := box (BL.out.trans (hb3.mono BL.out.size))
        clear hb3 cA
        go_wp2
        go_ret
        exact ⟨rfl, B3.out⟩
      | true =>
        obtain ⟨f, hf⟩ : ∃ f, bs (fmtL (o, x)) = f := ⟨_, rfl⟩
        have HF := box hf
        have hfe : (f.toList == []) = false := by rw [← hf, beq_eq_false_iff_ne, toList_bs]; exact fmt_ne ht
        have hfz : f.size ≤ 65000 := by
          rw [← hf, bs_size]
          have h2 := fmt_len21 (o, x)
          have h3 := hz.out _ (List.getElem_mem hlt)
          rw [hx] at h3
          have h4 : (o, x).2.size = x.size := rfl
          omega
        obtain ⟨qi, hqi⟩ : ∃ qi, idxF f.data.toList 92 0 = qi := ⟨_, rfl⟩
        have HQI := box hqi
        by_cases hneg : 0 ≤ qi
        · clear ht hx ho hf hqi
          go_wp2_with fail
          refine (rFmtE_is hxz HF).mono ?_; rintro e w3 ⟨rfl, hb3⟩
          have B3 := box (BL.out.trans (hb3.mono BL.out.size))
          clear hb3 cA
          go_wp2_with fail
          refine (rIndex21_is hfz HQI).mono ?_; rintro e w4 ⟨rfl, rfl⟩
          go_wp2
          go_ret
          exact ⟨rfl, B3.out⟩
        · have hno : (92 : UInt8) ∉ fmtL (o, x) := by
            have := idxF_none (l := f.data.toList) (c := 92) (k := 0) (by rw [hqi]; omega)
            rw [List.drop_zero] at this
            have := idx_not this
            rw [← hf, bs_toList] at this
            exact this
          have HG2 : Box (∀ j (h : j < L.length), j < k + 1 → tagT L[j].data.toList = true ∧ (92 : UInt8) ∉ fmtL (oddB j, L[j])) := box (fun j h hj => by
            by_cases e : j = k
            · subst e; rw [hx, ho]; exact ⟨ht, hno⟩
            · exact HG.out j h (by omega))
          have hfk : k < (fmtK L).length := by rw [fmtK_len]; exact hlt
          have hfa : (fmtK L)[k] = f := by rw [fmtK_at hlt, hx, ho]; exact hf
          by_cases hkc : k < c
          · have hkci : (k : Int) < (c : Int) := by omega
            have HP1 : Box ((fmtK L).take (min (k + 1) c) = P ++ [f]) := box (by
              have := HPE.out
              rw [Nat.min_eq_left (by omega)] at this ⊢
              rw [take_next hfk, this, hfa])
            have HQ1 : Box (((fmtK L).take (k + 1)).drop c = []) := box (List.drop_eq_nil_of_le (by rw [List.length_take]; omega))
            clear ht hx ho hf hqi hno hfk hfa
            go_wp2_with fail
            refine (rFmtE_is hxz HF).mono ?_; rintro e w3 ⟨rfl, hb3⟩
            have B3 := box (BL.out.trans (hb3.mono BL.out.size))
            have P3 := box (own_below P0.out hb3)
            have hs3 : w.heap.size ≤ w3.heap.size := Nat.le_trans hwr hb3.size
            clear hb3 cA
            go_wp2_with fail
            refine (rIndex21_is hfz HQI).mono ?_; rintro e w4 ⟨rfl, rfl⟩
            go_wp2_with (at_builtin; refine wpList_append_str _ rfl (.tmp 56) (.tmp 58) rfl w.heap.size _ P rfl ?a1 _ _ rfl f ?b1 ?c1 ?d1 ?_)
            case a1 => exact own_below P3.out (below_new _ _)
            case b1 => exact cell_new21 _ _ _
            case c1 => omega
            case d1 => simp; omega
            intro v5 w5 hO5 hb5
            have O5 := box hO5
            have B5 := box ((B3.out.alloc B3.out.size _).trans hb5)
            clear hO5 hb5
            go_wp2
            go_roundw
            case rel => exact ⟨k + 1, w5.heap.size, by go_num, hlt, HG2.out, by rw [HP1.out]; exact O5.out, own_lt O5.out, Nat.le_refl _, B5.out.size, by rw [HQ1.out, QN.out (by omega)]; exact OwnS.nil _ _, fun _ => QN.out (by omega), B5.out⟩
            case measure => simp [intOf]; omega
          · have hkci : ¬ (k : Int) < (c : Int) := by omega
            have HP1 : Box ((fmtK L).take (min (k + 1) c) = P) := box (by
              have := HPE.out
              rw [Nat.min_eq_right (by omega)] at this ⊢
              exact this)
            have HQ1 : Box (((fmtK L).take (k + 1)).drop c = Q ++ [f]) := box (by
              rw [take_next hfk, List.drop_append_of_le_length (by rw [List.length_take]; omega), HQE.out, hfa])
            clear ht hx ho hf hqi hno hfk hfa
            go_wp2_with fail
            refine (rFmtE_is hxz HF).mono ?_; rintro e w3 ⟨rfl, hb3⟩
            have B3 := box (BL.out.trans (hb3.mono BL.out.size))
            have P3 := box (own_below P0.out hb3)
            have Q3 := box (own_below Q0.out hb3)
            have hs3 : B2 ≤ w3.heap.size := Nat.le_trans BB.out.1 hb3.size
            clear hb3 cA
            go_wp2_with fail
            refine (rIndex21_is hfz HQI).mono ?_; rintro e w4 ⟨rfl, rfl⟩
            go_wp2_with (at_builtin; refine wpList_append_str _ rfl (.tmp 60) (.tmp 62) rfl B2 _ Q rfl ?a2 _ _ rfl f ?b2 ?c2 ?d2 ?_)
            case a2 => exact own_below Q3.out (below_new _ _)
            case b2 => exact cell_new21 _ _ _
            case c2 => omega
            case d2 => simp; omega
            intro v5 w5 hO5 hb5
            have O5 := box hO5
            have P5 := box (own_low (own_below P3.out (below_new _ _)) hb5 PB.out)
            have B5 := box ((B3.out.alloc B3.out.size _).trans (hb5.mono BB.out.2))
            have S5 := box hb5.size
            clear hO5 hb5
            go_wp2
            go_roundw
            case rel => exact ⟨k + 1, B2, by go_num, hlt, HG2.out, by rw [HP1.out]; exact P5.out, PB.out, Nat.le_trans (Nat.le_trans hs3 (below_new _ _).size) S5.out, BB.out.2, by rw [HQ1.out]; exact O5.out, fun h => absurd h (by omega), B5.out⟩
            case measure => simp [intOf]; omega
    · have hki : ¬ (k : Int) < (L.length : Int) := by omega
      have HGK : Box (GoodK L) := box (fun j h => HG.out j h (by omega))
      obtain ⟨HX0, hj1, hj2⟩ := lines21 HGK.out hz.out H1.out h20 c
      have HPc : Box (P = (fmtK L).take c) := box (by rw [← HPE.out, Nat.min_eq_right (by omega)])
      have HQc : Box (Q = (fmtK L).drop c) := box (by rw [← HQE.out, List.take_of_length_le (by rw [fmtK_len]; omega)])
      rw [← HPc.out, ← HQc.out] at HX0
      rw [← HPc.out] at hj1
      rw [← HQc.out] at hj2
      obtain ⟨j1, e1⟩ : ∃ j1, joinB P = j1 := ⟨_, rfl⟩
      obtain ⟨j2, e2⟩ : ∃ j2, joinB Q = j2 := ⟨_, rfl⟩
      rw [e1, e2] at HX0
      rw [e1] at hj1
      rw [e2] at hj2
      have HJ1 := box e1
      have HJ2 := box e2
      obtain ⟨X, hX⟩ : ∃ X, tagsE L = X := ⟨_, rfl⟩
      rw [hX] at HX0
      have HX := box HX0
      have HXE := box hX
      have hxl : X.length = L.length := by rw [← hX, tagsE_len]
      have HXL := box hxl
      have hxn : ((X.length : Int) != (L.length : Int)) = false := by rw [hxl]; simp
      have hsz : ∀ M : List ByteArray, (∀ m ∈ M, m ∈ fmtK L) → ∀ m ∈ M, m.size ≤ 65536 := fun M h m hm => by
        obtain ⟨i, hi, rfl⟩ := List.getElem_of_mem (h m hm)
        have hi2 : i < L.length := by rw [← fmtK_len L]; exact hi
        rw [fmtK_at hi2, bs_size]
        have h2 := fmt_len21 (oddB i, L[i])
        have h3 := hz.out _ (List.getElem_mem hi2)
        have h4 : (oddB i, L[i]).2.size = L[i].size := rfl
        omega
      have hPz : Box (∀ m ∈ P, m.size ≤ 65536) := box (hsz P (fun m hm => by rw [HPc.out] at hm; exact List.mem_of_mem_take hm))
      have hQz : Box (∀ m ∈ Q, m.size ≤ 65536) := box (hsz Q (fun m hm => by rw [HQc.out] at hm; exact List.mem_of_mem_drop hm))
      have hp6 : P.length ≤ 65536 := by omega
      have hq6 : Q.length ≤ 65536 := by omega
      obtain ⟨pa', pc', hpe, hPS, _⟩ := OwnS.ss P0.out
      cases hpe
      obtain ⟨qa', qc', hqe, hQS, _⟩ := OwnS.ss Q0.out
      cases hqe
      have PS := box hPS
      have QS := box hQS
      have SM : Box (Sm [(inmN, j1), (inmL, j2)]) := box ⟨by simp, fun i hi => by
        match i, hi with
        | 0, _ => exact ⟨by show inmN.size ≤ 65536; decide, by show j1.size ≤ 65536; omega⟩
        | 1, _ => exact ⟨by show inmL.size ≤ 65536; decide, by show j2.size ≤ 65536; omega⟩⟩
      have HV : Box (∀ x ∈ getL inmN [(inmN, j1), (inmL, j2)], x.size ≤ 65000) := box (fun x hx => by
        rw [inm_get] at hx
        simp only [List.mem_cons, List.not_mem_nil, or_false] at hx
        rcases hx with rfl | rfl <;> omega)
      have M : Box (inmN.size ≤ 65536) := box (by decide)
      have FT := box (F0.out.below BL.out)
      clear SS HX0 hX hxl hsz e1 e2 hPS hQS
      go_wp2_with fail
      refine (rJoin21_is (L := P) (box rfl) hp6 hPz PS.out HJ1).mono ?_; rintro e w4 ⟨rfl, rfl⟩
      go_wp2_with fail
      refine (rJoin21_is (L := Q) (box rfl) hq6 hQz QS.out HJ2).mono ?_; rintro e w4 ⟨rfl, rfl⟩
      go_wp2_with fail
      refine (mListE_is (L := [(inmN, j1), (inmL, j2)]) SM HV M (fs_two21 _ _ _ _ _ _) HX).mono ?_; rintro e w5 ⟨a5, cap5, rfl, hS5, hb5⟩
      have S5 := box hS5
      have B5 := box ((BL.out.alloc BL.out.size _).trans (hb5.mono (BL.out.alloc BL.out.size _).size))
      have T5 := box ((FT.out.below (below_new _ _)).below hb5)
      clear hS5 hb5
      go_wp2
      go_loopw [12] (fun i wr => ∃ k : Nat, i = .int .i64 k ∧ k ≤ X.length ∧ Below w5.heap.size w5 wr) (fun i _ => X.length - (intOf i).toNat)
      case atStart => exact ⟨0, rfl, Nat.zero_le _, Below.refl _ _⟩
      case round =>
        obtain ⟨m, rfl, hm, hbm⟩ := hrel
        have BM := box hbm
        have EX := S5.out.below hbm
        have TX := T5.out.below hbm
        clear hbm
        by_cases hlm : m < X.length
        · have hmi : (m : Int) < (X.length : Int) := by omega
          have hmL : m < L.length := by rw [← HXL.out]; exact hlm
          have hmLi : (m : Int) < (L.length : Int) := by omega
          obtain ⟨y, hy⟩ : ∃ y, L[m] = y := ⟨_, rfl⟩
          obtain ⟨o, ho⟩ : ∃ o, oddB m = o := ⟨_, rfl⟩
          have hXm : X[m] = (o, y) := by
            have h2 := HXE.out
            subst h2
            rw [tagsE_at hmL, hy, ho]
          obtain ⟨g5, off5, rfl, c0, c1⟩ := EX m hlm
          obtain ⟨g6, off6, hg6, d0⟩ := TX m hmL
          cases hg6
          rw [hXm] at c0 c1
          rw [hy] at d0
          have hm1 := mod_odd m
          have hm2 := tmod_odd m
          rw [ho] at hm1 hm2
          have ey : (y.toList == y.toList) = true := by simp
          have eo : (o == o) = true := by simp
          clear EX TX hXm hy ho
          go_wp2
          go_quiet (fail)
          go_wp2
          go_roundw
          case rel => exact ⟨m + 1, by go_num, hlm, BM.out.trans ((below_drewN _ _).mono BM.out.size)⟩
          case measure => simp [intOf]; omega
        · have hmi : ¬ (m : Int) < (X.length : Int) := by omega
          clear EX TX
          go_wp2_with fail
          refine (awake21_any _).mono ?_; rintro e w7 ⟨rfl, hb7⟩
          have B7 := box ((B5.out.trans (BM.out.mono B5.out.size)).trans (hb7.mono (B5.out.trans (BM.out.mono B5.out.size)).size))
          clear hb7
          go_wp2
          go_ret
          exact ⟨rfl, B7.out⟩
theorem lines21_walk (a : Option Addr) (cap : Nat) (L : List ByteArray) (c : Int) (w : World) (hl : L.length ≤ maxLen) (hF : Ss w a L) (hc : L.length ≤ cap) (S : (Lit.int .i64 c).wf = true) :
    Calls Try.prog 7 #[.slice a L.length cap, .int .i64 c] w fun e w' => e = .returned (.bool true) ∧ Below w.heap.size w w' := by
  cases hk : keepS L with
  | false => exact lines21_short a cap L c w hl (box hF) false (box hk) (.inl rfl)
  | true =>
    by_cases h1 : L.length < 1
    · exact lines21_short a cap L c w hl (box hF) true (box hk) (.inr (.inl ⟨rfl, h1⟩))
    · by_cases h2 : c < 0
      · exact lines21_short a cap L c w hl (box hF) true (box hk) (.inr (.inr (.inl ⟨rfl, h1, h2⟩)))
      · by_cases h3 : (L.length : Int) < c
        · exact lines21_short a cap L c w hl (box hF) true (box hk) (.inr (.inr (.inr ⟨rfl, h1, h2, h3⟩)))
        · obtain ⟨n, rfl⟩ : ∃ n : Nat, c = (n : Int) := ⟨c.toNat, by omega⟩
          obtain ⟨k1, k2⟩ := keepS_small hk
          exact lines21_in a cap L n w (box hF) (box hk) (by omega) k1 (box k2) (by omega)

end Go.Proofs.Ytchbhpfloinbdaa.Asc
