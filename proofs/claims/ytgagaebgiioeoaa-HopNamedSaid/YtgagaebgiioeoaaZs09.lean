/- Merged texts: HopLaws2. -/
import Derived.Test.YtgagaebgiioeoaaZs06
import Derived.Test.YtgagaebgiioeoaaZs08
set_option linter.unusedVariables false
set_option linter.unusedSimpArgs false
set_option maxRecDepth 100000
namespace Go.Proofs.Ytgagaebgiioeoaa.Asc
section
open Go.RowKit Go.Deep
theorem rRem25_is {a : Option Addr} {cap n m : Nat} {L K : List F} {nm : ByteArray} {w : World} (S : Box (Sm L)) (M : nm.size ≤ 65536) (hF : Fs w a L) (hn : Box (L.length = n)) (h : Box (remL nm L = K)) (hm : Box (K.length = m)) :
    Calls Try.prog 17 #[.slice a n cap, .string nm] w fun e w' => ∃ a2 c2, e = .returned (.slice a2 m c2) ∧ Fs w' a2 K ∧ Below w.heap.size w w' := by
  have hx := rRemove_any a cap L nm w S.out.1 S (box M) (box hF)
  rw [hn.out, h.out] at hx
  refine hx.mono fun e w' ⟨v, h1, h2, h3⟩ => ?_
  obtain ⟨a2, c2, rfl, hS, _⟩ := OwnF.fs h2
  exact ⟨a2, c2, by rw [h1, hm.out], hS, h3⟩
theorem rTok25_is {s : ByteArray} {q : Bool} {w : World} (hs : s.size ≤ 65536) (h : Box (tokL s.data.toList = q)) :
    Calls Try.prog 14 #[.string s] w fun e w' => e = .returned (.bool q) ∧ w = w' :=
  (rToken_any s w (by unfold maxLen; omega)).mono fun e w' ⟨h1, h2⟩ => ⟨by rw [h1, h.out], h2⟩
theorem rAll25_is {a : Option Addr} {cap n m : Nat} {L : List F} {nm : ByteArray} {K : List ByteArray} {w : World} (S : Box (Sm L)) (hv : Box (∀ x ∈ getL nm L, x.size ≤ 65000)) (M : nm.size ≤ 65536) (hF : Fs w a L) (hn : Box (L.length = n)) (h : Box (allB nm L = K)) (hm : Box (K.length = m)) :
    Calls Try.prog 16 #[.slice a n cap, .string nm] w fun e w' => ∃ a2 cap2, e = .returned (.slice a2 m cap2) ∧ Below w.heap.size w w' := by
  have hx := rAll_is (cap := cap) S hv (box M) hF h
  rw [hn.out] at hx
  exact hx.mono fun e w' ⟨a2, c2, h1, _, h3⟩ => ⟨a2, c2, by rw [h1, hm.out], h3⟩
def SixRel (nm : ByteArray) (W : World) (b i : Value) (wr : World) : Prop := ∃ k : Nat, k ≤ kepN.length ∧ i = .int .i64 k ∧ b = .bool (amgL nm (kepN.take k)) ∧ Below W.heap.size W wr
set_option maxHeartbeats 8000000 in
theorem named25_in (a : Option Addr) (cap n : Nat) (L : List F) (nm vl : ByteArray) (w : World) (HL : Box (L.length ≤ maxLen)) (F0 : Box (Fs w a L)) (hc : a = none → cap = 0) (hnz : nm.size ≤ 100) (hvz : vl.size ≤ 100) (HM : Box (MxL w)) (HN : Box (L.length = n))
    (HK : Box (keepF L = true)) (HT : Box (tokL nm.data.toList = true)) (HF : Box (foldL nm.data.toList conN.data.toList = false)) (A : Nat) (AB : List ByteArray) (HAA : Box (allB conN L = AB)) (HA : Box (AB.length = A)) (hA : A ≤ 50) :
    Calls Try.prog 5 #[.slice a n cap, .string nm, .string vl] w fun e w' => e = .returned (.bool true) ∧ Below w.heap.size w w' := by
  have hmem := keep_mem25 HK.out
  have hl70 := (keep_parts HK.out).1
  have S := box (mem_sm25 (by omega) hmem)
  have HV := box (mem_get25 hmem conN)
  obtain ⟨M, hM⟩ : ∃ M, [(nm, vl), (conN, nm)] = M := ⟨_, rfl⟩
  have HMM := box hM
  obtain ⟨Q, hQ⟩ : ∃ Q, L ++ M = Q := ⟨_, rfl⟩
  have HQ := box hQ
  obtain ⟨nq, hnq⟩ : ∃ nq, Q.length = nq := ⟨_, rfl⟩
  have HNQ := box hnq
  have HQL : Box ((L ++ M).length = nq) := box (by rw [hQ]; exact hnq)
  have qmem : ∀ p ∈ Q, p.1.size ≤ 65000 ∧ p.2.size ≤ 65000 := by rw [← hQ, ← hM]; exact two_mem25 hmem hnz hvz
  have hql : Q.length ≤ 65536 := by rw [← hQ, ← hM, List.length_append]; show L.length + 2 ≤ 65536; omega
  have SQ := box (mem_sm25 hql qmem)
  have HVQ := box (mem_get25 qmem conN)
  have hal : (allL conN L).length ≤ 50 := by have := HA.out; rw [← HAA.out] at this; unfold allB at this; rw [List.length_map] at this; omega
  have hsp := tok_split25 HT.out
  obtain ⟨K, hK⟩ : ∃ K, strL Q = K := ⟨_, rfl⟩
  have HKK := box hK
  obtain ⟨P, hP⟩ : ∃ P, strL L = P := ⟨_, rfl⟩
  have HPP := box hP
  obtain ⟨q, hq⟩ : ∃ q, amgL nm kepN = q := ⟨_, rfl⟩
  have HQQ := box hq
  have HH : Box (K.any (nmd nm) = q) := box (by rw [← hK, ← hQ, ← hM, ← hq]; exact named_has hal hsp HF.out)
  obtain ⟨R, hR⟩ : ∃ R, remL nm P = R := ⟨_, rfl⟩
  have HR2 := box hR
  have HR1 : Box (remL nm K = R) := box (by rw [← hK, ← hQ, ← hM, ← hR, ← hP]; exact named_rest hal hsp HF.out)
  have hkl : K.length ≤ 65536 := by rw [← hK]; have := str_len25 Q; omega
  have hpl : P.length ≤ 65536 := by rw [← hP]; have := str_len25 L; omega
  have hrl : R.length ≤ 65536 := by rw [← hR]; exact Nat.le_trans (List.length_filter_le _ _) hpl
  have SK := box (mem_sm25 hkl (by rw [← hK]; exact str_mem25 qmem))
  have SP := box (mem_sm25 hpl (by rw [← hP]; exact str_mem25 hmem))
  obtain ⟨k1, hk1⟩ : ∃ k, K.length = k := ⟨_, rfl⟩
  have HK1 := box hk1
  obtain ⟨p1, hp1⟩ : ∃ k, P.length = k := ⟨_, rfl⟩
  have HP1 := box hp1
  obtain ⟨r1, hr1⟩ : ∃ k, R.length = k := ⟨_, rfl⟩
  have HR := box hr1
  have HRL := box hrl
  have hni : ¬ (100 : Int) < (nm.size : Int) := by omega
  have hvi : ¬ (100 : Int) < (vl.size : Int) := by omega
  have hAi : ¬ (50 : Int) < (A : Int) := by omega
  clear hmem hQ hnq hM qmem hql hal hsp hK hP hq hR hkl hpl hrl hk1 hp1 hr1
  go_enter Try.func5, Try.ntmps5
  go_wp2_with fail
  refine (keepF25_is HL.out F0.out HN HK).mono ?_; rintro e w0 ⟨rfl, rfl⟩
  go_wp2_with fail
  refine (rTok25_is (by omega) HT).mono ?_; rintro e w0 ⟨rfl, rfl⟩
  go_wp2_with fail
  refine (rFold25_is (by omega) (by decide) HF).mono ?_; rintro e wf ⟨rfl, hbf⟩
  have BF := box hbf
  clear hbf
  go_wp2_with fail
  refine (rAll25_is (nm := conN) S HV (by decide) (F0.out.below BF.out) HN HAA HA).mono ?_; rintro e w1 ⟨aa, ca, rfl, hb1⟩
  have B1 := box (BF.out.trans (hb1.mono BF.out.size))
  clear hb1
  replace F0 := box (F0.out.below B1.out)
  replace HM := box (HM.out.below B1.out (Nat.le_refl _))
  have hs1 := B1.out.size
  go_wp2_with (at_builtin; refine wpList_append_flds17 _ rfl (.const (.slice none 0 0)) (.tmp 40) rfl w1.heap.size (.slice none 0 0) [] L rfl (OwnF.nil _ _) a n cap rfl HN.out hc F0.out (Nat.zero_le _) (by omega) (Nat.le_refl _) ?_)
  intro v2 w2 hO2 hb2
  have O2 := box hO2
  have N2 := box hb2
  clear hO2 hb2
  go_wp2_with (at_builtin; refine wpList_append_flds17 _ rfl (.tmp 41) (.tmp 47) rfl w1.heap.size v2 L M rfl (own_below O2.out (below_new _ _)) (some ⟨w2.heap.size, 0, none⟩) 2 2 rfl (by rw [← HMM.out]; rfl) (fun h => by cases h) (by rw [← HMM.out]; exact Fs.cells25 [(nm, vl), (conN, nm)] w2 _) (by omega) (by rw [← HMM.out]; show 2 ≤ 65536; omega) (by have := N2.out.size; simp; omega) ?_)
  intro v7 w7 hO7 hb7
  obtain ⟨a7, c7, rfl, hF7, _⟩ := OwnF.fs hO7
  have F7 : Box (Fs w7 a7 Q) := box (by rw [← HQ.out]; exact hF7)
  have N7 : Box (Below w1.heap.size w1 w7) := box ((N2.out.trans ((below_new _ _).mono N2.out.size)).trans hb7)
  rw [HQL.out]
  clear hO7 hb7 hF7
  have M7 := box (HM.out.below N7.out (Nat.le_refl _))
  go_wp2_with fail
  refine (mStrip_is M7.out SQ HVQ F7.out HNQ HKK HK1).mono ?_; rintro e w8 ⟨a8, c8, rfl, hF8, hb8⟩
  have F8 := box hF8
  have N8 := box (N7.out.trans (hb8.mono N7.out.size))
  clear hF8 hb8
  obtain ⟨W0, hW0⟩ : ∃ W0, w8.alloc (.cells (kepN.map Value.string).toArray 9) = W0 := ⟨_, rfl⟩
  have HW := box hW0
  have BW : Box (Below w1.heap.size w1 W0) := box (by rw [← hW0]; exact N8.out.trans ((below_new _ _).mono N8.out.size))
  have K1 : Box (Ss W0 (some ⟨w8.heap.size, 0, none⟩) kepN) := box (by rw [← hW0]; exact Ss.cells25 kepN w8 _)
  have T1 : Box (Fs W0 a8 K) := box (by rw [← hW0]; exact F8.out.below (below_new _ _))
  clear hW0
  go_wp2
  go_loopw [10, 11] (fun b i wr => SixRel nm W0 b i wr) (fun _ i _ => kepN.length - (intOf i).toNat)
  case atStart => exact ⟨0, Nat.zero_le _, rfl, rfl, by rw [← HW.out]; exact Below.refl _ _⟩
  case round =>
    obtain ⟨k, hk, rfl, rfl, hbel⟩ := hrel
    have BL := box hbel
    clear hbel
    by_cases hlt : k < kepN.length
    · have hk6 : (k : Int) < 6 := by have : kepN.length = 6 := rfl; omega
      obtain ⟨g, off, he, c0⟩ := (K1.out.below BL.out) k hlt
      obtain ⟨x, hx⟩ : ∃ x, kepN[k] = x := ⟨_, rfl⟩
      have hxz := kep_sizes x (by rw [← hx]; exact List.getElem_mem hlt)
      obtain ⟨f, hf⟩ : ∃ f, foldL x.data.toList nm.data.toList = f := ⟨_, rfl⟩
      have HX := box hf
      have HE := box (kep_more (n := nm) hlt (q := f) (by rw [hx]; exact hf))
      injection he with he
      injection he with e1 e2 e3
      subst e1 e2
      rw [hx, Nat.zero_add] at c0
      obtain ⟨b, hb⟩ : ∃ b, amgL nm (kepN.take k) = b := ⟨_, rfl⟩
      rw [hb] at HE ⊢
      clear hx hf hb
      cases b with
      | true =>
        go_wp2
        go_roundw
        case rel => exact ⟨k + 1, by omega, by go_num, by rw [HE.out]; rfl, BL.out⟩
        case measure => simp [intOf]; omega
      | false =>
        go_wp2_with fail
        refine (rFold25_is hxz (by omega) HX).mono ?_; rintro e w3 ⟨rfl, hb3⟩
        have B3 := box (BL.out.trans (hb3.mono BL.out.size))
        clear hb3 c0
        go_wp2
        go_roundw
        case rel => exact ⟨k + 1, by omega, by go_num, by rw [HE.out]; rfl, B3.out⟩
        case measure => simp [intOf]; omega
    · have hk6 : ¬ (k : Int) < 6 := by have : kepN.length = 6 := rfl; omega
      have e : k = kepN.length := by omega
      have hq2 : amgL nm (kepN.take k) = q := by rw [e, List.take_length]; exact HQQ.out
      rw [hq2]
      clear hq2 e
      have BE := box (BW.out.trans (BL.out.mono BW.out.size))
      have TE := box (T1.out.below BL.out)
      go_wp2_with fail
      refine (rHas25_is SK (by omega) TE.out HK1 HH).mono ?_; rintro e w3 ⟨rfl, hb3⟩
      have B3 := box (BE.out.trans (hb3.mono BE.out.size))
      have T3 := box (TE.out.below hb3)
      clear hb3
      have hqq : (q == q) = true := by cases q <;> rfl
      go_wp2_with fail
      refine (rRem25_is SK (by omega) T3.out HK1 HR1 HR).mono ?_; rintro e w4 ⟨a4, c4, rfl, hS4, hb4⟩
      have B4 := box (B3.out.trans (hb4.mono B3.out.size))
      have S4 := box hS4
      clear hS4 hb4
      go_wp2_with fail
      refine (mStrip_is (HM.out.below B4.out (Nat.le_refl _)) S HV (F0.out.below B4.out) HN HPP HP1).mono ?_; rintro e w5 ⟨a5, c5, rfl, hS5, hb5⟩
      have B5 := box (B4.out.trans (hb5.mono B4.out.size))
      have S5 := box hS5
      have U5 := box (S4.out.below hb5)
      clear hS5 hb5
      go_wp2_with fail
      refine (rRem25_is SP (by omega) S5.out HP1 HR2 HR).mono ?_; rintro e w6 ⟨a6, c6, rfl, hS6, hb6⟩
      have B6 := box (B5.out.trans (hb6.mono B5.out.size))
      have S6 := box hS6
      have U6 := box (U5.out.below hb6)
      clear hS6 hb6
      go_wp2_with fail
      refine (sameF25_is (q := true) HR HR HRL.out HRL.out U6.out S6.out (box (decide_eq_true rfl))).mono ?_; rintro e w7 ⟨rfl, hb7⟩
      have B7 := box (B6.out.trans (hb7.mono B6.out.size))
      clear hb7
      go_wp2_with fail
      refine (awake25_any _ (HM.out.below B7.out (Nat.le_refl _))).mono ?_; rintro e w9 ⟨rfl, hb9⟩
      have B9 := box (B7.out.trans (hb9.mono B7.out.size))
      clear hb9
      go_wp2
      go_ret
      exact ⟨rfl, B1.out.trans (B9.out.mono B1.out.size)⟩
set_option maxHeartbeats 4000000 in
theorem named25_walk (a : Option Addr) (cap : Nat) (L : List F) (nm vl : ByteArray) (w : World) (hl : L.length ≤ maxLen) (hF : Fs w a L) (hc : L.length ≤ cap ∧ (a = none → cap = 0)) (hn : nm.size ≤ maxLen) (hv : vl.size ≤ maxLen) (hm : MxL w) :
    Calls Try.prog 5 #[.slice a L.length cap, .string nm, .string vl] w fun e w' => e = .returned (.bool true) ∧ Below w.heap.size w w' := by
  have HM := box hm
  have F0 := box hF
  have HL := box hl
  obtain ⟨n, hln⟩ : ∃ n, L.length = n := ⟨_, rfl⟩
  rw [hln]
  have HN := box hln
  unfold maxLen at hn hv
  clear hm hF hl hln
  rcases hk0 : keepF L with _ | _
  · have HK := box hk0
    clear hk0
    go_enter Try.func5, Try.ntmps5
    go_wp2_with fail
    refine (keepF25_is HL.out F0.out HN HK).mono ?_; rintro e w0 ⟨rfl, rfl⟩
    go_wp2
    go_ret
    exact ⟨rfl, Below.refl _ _⟩
  · have HK := box hk0
    have hmem := keep_mem25 hk0
    have hl70 := (keep_parts hk0).1
    have S := box (mem_sm25 (by omega) hmem)
    have HV := box (mem_get25 hmem conN)
    clear hk0 hmem hl70
    by_cases hz : 100 < nm.size
    · have hni : (100 : Int) < (nm.size : Int) := by omega
      go_enter Try.func5, Try.ntmps5
      go_wp2_with fail
      refine (keepF25_is HL.out F0.out HN HK).mono ?_; rintro e w0 ⟨rfl, rfl⟩
      go_wp2
      go_ret
      exact ⟨rfl, Below.refl _ _⟩
    · have hni : ¬ (100 : Int) < (nm.size : Int) := by omega
      by_cases hz2 : 100 < vl.size
      · have hvi : (100 : Int) < (vl.size : Int) := by omega
        go_enter Try.func5, Try.ntmps5
        go_wp2_with fail
        refine (keepF25_is HL.out F0.out HN HK).mono ?_; rintro e w0 ⟨rfl, rfl⟩
        go_wp2
        go_ret
        exact ⟨rfl, Below.refl _ _⟩
      · have hvi : ¬ (100 : Int) < (vl.size : Int) := by omega
        rcases ht : tokL nm.data.toList with _ | _
        · have HT := box ht
          clear ht
          go_enter Try.func5, Try.ntmps5
          go_wp2_with fail
          refine (keepF25_is HL.out F0.out HN HK).mono ?_; rintro e w0 ⟨rfl, rfl⟩
          go_wp2_with fail
          refine (rTok25_is (by omega) HT).mono ?_; rintro e w0 ⟨rfl, rfl⟩
          go_wp2
          go_ret
          exact ⟨rfl, Below.refl _ _⟩
        · have HT := box ht
          clear ht
          rcases hf : foldL nm.data.toList conN.data.toList with _ | _
          · have HF := box hf
            clear hf
            obtain ⟨AB, hab⟩ : ∃ AB, allB conN L = AB := ⟨_, rfl⟩
            have HAA := box hab
            obtain ⟨A, ha⟩ : ∃ A, AB.length = A := ⟨_, rfl⟩
            have HA := box ha
            clear hab ha
            by_cases hA : A ≤ 50
            · exact named25_in a cap n L nm vl w HL F0 hc.2 (by omega) (by omega) HM HN HK HT HF A AB HAA HA hA
            · have hAi : (50 : Int) < (A : Int) := by omega
              go_enter Try.func5, Try.ntmps5
              go_wp2_with fail
              refine (keepF25_is HL.out F0.out HN HK).mono ?_; rintro e w0 ⟨rfl, rfl⟩
              go_wp2_with fail
              refine (rTok25_is (by omega) HT).mono ?_; rintro e w0 ⟨rfl, rfl⟩
              go_wp2_with fail
              refine (rFold25_is (by omega) (by decide) HF).mono ?_; rintro e wf ⟨rfl, hbf⟩
              have BF := box hbf
              clear hbf
              go_wp2_with fail
              refine (rAll25_is (nm := conN) S HV (by decide) (F0.out.below BF.out) HN HAA HA).mono ?_; rintro e w1 ⟨aa, ca, rfl, hb1⟩
              have B1 := box (BF.out.trans (hb1.mono BF.out.size))
              clear hb1
              go_wp2
              go_ret
              exact ⟨rfl, B1.out⟩
          · have HF := box hf
            clear hf
            go_enter Try.func5, Try.ntmps5
            go_wp2_with fail
            refine (keepF25_is HL.out F0.out HN HK).mono ?_; rintro e w0 ⟨rfl, rfl⟩
            go_wp2_with fail
            refine (rTok25_is (by omega) HT).mono ?_; rintro e w0 ⟨rfl, rfl⟩
            go_wp2_with fail
            refine (rFold25_is (by omega) (by decide) HF).mono ?_; rintro e wf ⟨rfl, hbf⟩
            have BF := box hbf
            clear hbf
            go_wp2
            go_ret
            exact ⟨rfl, BF.out⟩
end
end Go.Proofs.Ytgagaebgiioeoaa.Asc
