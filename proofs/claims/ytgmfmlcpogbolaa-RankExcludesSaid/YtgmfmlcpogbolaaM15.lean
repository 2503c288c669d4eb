/- Merged texts: RnkLaws2. -/
import Derived.Test.YtgmfmlcpogbolaaM14
set_option linter.unusedVariables false
set_option linter.unusedSimpArgs false
set_option maxRecDepth 100000
namespace Go.Proofs.Ytgmfmlcpogbolaa.Asc
section
open Go.RowKit
def lessP (k s : Int) (v : List UInt8) (p : QP) : Bool := decide (matchP k p.1.data.toList v < s)
def ExRel (k s : Int) (v : List UInt8) (L : List QP) (W : World) (o i : Value) (wr : World) : Prop :=
  ∃ j : Nat, i = .int .i64 j ∧ j ≤ L.length ∧ OwnQ wr W.heap.size o ((L.take j).filter (lessP k s v)) ∧ Below W.heap.size W wr
theorem less_on {k s : Int} {v : List UInt8} {L : List QP} {j : Nat} {p : QP} (hj : j < L.length) (hp : L[j] = p) (h : matchP k p.1.data.toList v < s) : (L.take (j + 1)).filter (lessP k s v) = (L.take j).filter (lessP k s v) ++ [p] := by
  rw [List.take_succ_eq_append_getElem hj, List.filter_append, hp]
  have : lessP k s v p = true := decide_eq_true h
  simp [this]
theorem less_off {k s : Int} {v : List UInt8} {L : List QP} {j : Nat} {p : QP} (hj : j < L.length) (hp : L[j] = p) (h : ¬ matchP k p.1.data.toList v < s) : (L.take (j + 1)).filter (lessP k s v) = (L.take j).filter (lessP k s v) := by
  rw [List.take_succ_eq_append_getElem hj, List.filter_append, hp]
  have : lessP k s v p = false := decide_eq_false h
  simp [this]
theorem less_all {k s : Int} {v : List UInt8} {L : List QP} : ∀ p ∈ L.filter (lessP k s v), matchP k p.1.data.toList v < s := fun p hp => of_decide_eq_true (List.mem_filter.1 hp).2
theorem rank_none {q : ByteArray → Int} {v : ByteArray} (h : q v = 0) : rankQ q [v] = [] := by
  show stepR q [] v = []
  unfold stepR
  rw [h, if_neg (by omega)]
theorem ss14_one (a : ByteArray) (w : World) (t : TypeId) : Ss (w.alloc (.cells #[.string a] t)) (some ⟨w.heap.size, 0, none⟩) [a] := by
  intro i hi
  refine ⟨w.heap.size, 0, rfl, ?_⟩
  rw [Nat.zero_add, World.cell?_alloc_mark]
  match i, hi with
  | 0, _ => rfl
set_option maxHeartbeats 2000000 in
theorem excludes14_in (k s : Int) (a : Option Addr) (cap : Nat) (L : List QP) (v : ByteArray) (w : World) (hki : InI64 k) (HL : Box (L.length ≤ maxLen)) (F0 : Box (Qs w a L)) (HK : Box (keepQ L = true)) (hl : L.length ≤ 20) (zL : Box (∀ i (hi : i < L.length), L[i].1.size ≤ 20000)) (h1 : v.size ≤ 100) (h2 : 1 ≤ k) (h3 : k ≤ 4) (h4 : 0 ≤ s) (HS : Box (matchP k v.data.toList v.data.toList = s)) :
    Calls Try.prog 5 #[.int .i64 k, .slice a L.length cap, .string v] w fun e w' => e = .returned (.bool true) ∧ Below w.heap.size w w' := by
  have i1 : ¬ (100 : Int) < (v.size : Int) := by omega
  have i2 : ¬ k < (1 : Int) := by omega
  have i3 : ¬ (4 : Int) < k := by omega
  have i4 : ¬ s < (0 : Int) := by omega
  have hv : v.size ≤ 20000 := by omega
  go_enter Try.func5, Try.ntmps5
  go_wp2_with fail
  refine (keepPrefs_any a cap L _ HL.out F0).mono ?_; rintro e w1 ⟨rfl, rfl⟩; rw [HK.out]
  go_wp2_with fail
  refine (rMatch14_is hki hv hv HS).mono ?_; rintro e w1 ⟨rfl, hb1⟩
  have h0 : Box (ExRel k s v.data.toList L w (.slice none 0 0) (.int .i64 0) w1) := box ⟨0, rfl, Nat.zero_le _, OwnQ.nil _ _, hb1⟩
  clear hb1
  go_wp2
  go_loopw [8, 9] (fun o i wr => ExRel k s v.data.toList L w o i wr) (fun _ i _ => L.length - (intOf i).toNat)
  case atStart => exact h0.out
  case round =>
    obtain ⟨j, rfl, hj, hO, hbel⟩ := hrel
    have BL := box hbel
    have O1 := box hO
    have F1 := box (F0.out.below hbel)
    clear hbel hO
    by_cases hlt : j < L.length
    · have hji : (j : Int) < (L.length : Int) := by omega
      obtain ⟨p, hp⟩ : ∃ p, L[j] = p := ⟨_, rfl⟩
      have HP := box hp
      have hpz : p.1.size ≤ 20000 := by have := zL.out j hlt; rw [hp] at this; exact this
      obtain ⟨x, hx⟩ : ∃ x, matchP k p.1.data.toList v.data.toList = x := ⟨_, rfl⟩
      have HX := box hx
      obtain ⟨g, off, rfl, c0, c1⟩ := F1.out j hlt
      rw [hp] at c0 c1
      have C1 := box (And.intro c0 c1)
      clear hx hp c1
      by_cases hgt : x < s
      · have HN : Box ((L.take (j + 1)).filter (lessP k s v.data.toList) = (L.take j).filter (lessP k s v.data.toList) ++ [p]) := box (less_on hlt HP.out (by rw [HX.out]; exact hgt))
        obtain ⟨A, hA⟩ : ∃ A, (L.take j).filter (lessP k s v.data.toList) = A := ⟨_, rfl⟩
        have hAl : A.length ≤ 65536 := by
          have := List.length_filter_le (lessP k s v.data.toList) (L.take j)
          rw [hA, List.length_take] at this; omega
        rw [hA] at O1 HN
        go_wp2_with fail
        refine (rMatch14_is hki hpz hv HX).mono ?_; rintro e w2 ⟨rfl, hb2⟩
        have B2 := box (BL.out.trans (hb2.mono BL.out.size))
        have O2 := box (own_below O1.out hb2)
        have c2 := (hb2.cell (cell_lt C1.out.1)).trans C1.out.1
        have c3 := (hb2.cell (cell_lt C1.out.2)).trans C1.out.2
        clear hb2 c0
        go_wp2_with (at_builtin; refine wpList_append_prf _ rfl (.tmp 50) (.tmp 55) rfl w.heap.size _ A rfl ?a1 _ _ rfl p.1 p.2 ?b1 ?b2 ?c1 ?d1 ?_)
        case a1 => exact own_below O2.out (below_new _ _)
        case b1 => go_simp
        case b2 => go_simp
        case c1 => omega
        case d1 => have := B2.out.size; simp; omega
        intro v3 w3 hO3 hb3
        have O3 := box hO3
        have B3 := box ((B2.out.alloc B2.out.size _).trans hb3)
        clear hO3 hb3
        go_wp2
        go_roundw
        case rel => exact ⟨j + 1, by go_num, hlt, by rw [HN.out]; exact O3.out, B3.out⟩
        case measure => simp [intOf]; omega
      · have HN : Box ((L.take (j + 1)).filter (lessP k s v.data.toList) = (L.take j).filter (lessP k s v.data.toList)) := box (less_off hlt HP.out (by rw [HX.out]; exact hgt))
        go_wp2_with fail
        refine (rMatch14_is hki hpz hv HX).mono ?_; rintro e w2 ⟨rfl, hb2⟩
        have B2 := box (BL.out.trans (hb2.mono BL.out.size))
        have O2 := box (own_below O1.out hb2)
        clear hb2 c0
        go_wp2
        go_roundw
        case rel => exact ⟨j + 1, by go_num, hlt, by rw [HN.out]; exact O2.out, B2.out⟩
        case measure => simp [intOf]; omega
    · have hji : ¬ (j : Int) < (L.length : Int) := by omega
      have hjl : j = L.length := by omega
      subst hjl
      rw [List.take_length] at O1
      obtain ⟨M, hM⟩ : ∃ M, L.filter (lessP k s v.data.toList) = M := ⟨_, rfl⟩
      rw [hM] at O1
      have hMl : M.length ≤ 20 := by
        have := List.length_filter_le (lessP k s v.data.toList) L
        rw [hM] at this; omega
      have hMp : ∀ p ∈ M, matchP k p.1.data.toList v.data.toList < s := by rw [← hM]; exact less_all
      have zM : Box (∀ i (hi : i < M.length), M[i].1.size ≤ 20000) := box (fun i hi => by
        have hm : M[i] ∈ L.filter (lessP k s v.data.toList) := by rw [hM]; exact List.getElem_mem hi
        obtain ⟨j, hj, e⟩ := List.getElem_of_mem (List.mem_filter.1 hm).1
        rw [← e]; exact zL.out j hj)
      have zA : Box (∀ i (hi : i < (M ++ [(v, (0 : Int))]).length), (M ++ [(v, (0 : Int))])[i].1.size ≤ 20000) := box (fun i hi => by
        by_cases h : i < M.length
        · rw [List.getElem_append_left h]; exact zM.out i h
        · rw [List.getElem_append_right (by omega)]; simp; exact hv)
      have zC : Box (∀ i (hi : i < ((v, (0 : Int)) :: M).length), ((v, (0 : Int)) :: M)[i].1.size ≤ 20000) := box (fun i hi => by
        match i, hi with
        | 0, _ => exact hv
        | i + 1, hi => exact zM.out i (by simpa using hi))
      have lA : Box ((M ++ [(v, (0 : Int))]).length ≤ 65536) := box (by simp; omega)
      have lC : Box (((v, (0 : Int)) :: M).length ≤ 65536) := box (by simp; omega)
      have lL : Box (L.length ≤ 65536) := box (by omega)
      have QA := box (qual_excl1 (k := k) (s := s) (v := v) (L := M) HS.out h4 hMp)
      have QC := box (qual_excl2 (k := k) (s := s) (v := v) (L := M) HS.out h4 hMp)
      have QL : Box (qualR k L false v.data.toList = 1000) := box rfl
      have QR : Box (rankQ (fun x => qualR k (M ++ [(v, (0 : Int))]) true x.data.toList) [v] = []) := box (rank_none (q := fun x => qualR k (M ++ [(v, (0 : Int))]) true x.data.toList) QA.out)
      have zV : Box (∀ i (hi : i < [v].length), [v][i].size ≤ 20000) := box (fun i hi => by
        match i, hi with
        | 0, _ => exact hv)
      have hM6 : M.length ≤ 65536 := by omega
      clear hM hMp hMl
      obtain ⟨am, cm, rfl, hQm, hnm, hcm⟩ := O1.out.qs2
      have QM := box hQm
      have NM := box hnm
      clear hQm hnm hcm
      go_wp2_with (at_builtin; refine wpList_append_prfs _ rfl (.const (.slice none 0 0)) (.tmp 57) rfl wr.heap.size _ [] M rfl (OwnQ.nil _ _) am cm rfl NM.out QM.out (by simp) hM6 (Nat.le_refl _) ?_)
      intro v2 w2 hO2 hb2
      have O2 : Box (OwnQ w2 wr.heap.size v2 M) := box hO2
      have D2 := box hb2
      clear hO2 hb2
      go_wp2_with (at_builtin; refine wpList_append_prf _ rfl (.tmp 58) (.tmp 61) rfl wr.heap.size _ M rfl ?a1 _ _ rfl v 0 ?b1 ?b2 ?c1 ?d1 ?_)
      case a1 => exact own_below O2.out (below_new _ _)
      case b1 => go_simp
      case b2 => go_simp
      case c1 => exact hM6
      case d1 => have := D2.out.size; simp; omega
      intro v3 w3 hO3 hb3
      obtain ⟨a3, c3, rfl, hQ3, _⟩ := hO3.qs
      have D3 := box ((D2.out.alloc D2.out.size _).trans hb3)
      have Q3 := box hQ3
      have F3 := box (F1.out.below D3.out)
      have M3 := box (QM.out.below D3.out)
      have B3 := box (BL.out.trans (D3.out.mono BL.out.size))
      clear hO3 hb3 hQ3
      go_wp2_with (at_builtin; refine wpList_append_prfs _ rfl (.tmp 65) (.tmp 66) rfl w3.heap.size _ [(v, 0)] M rfl (OwnQ.one (Nat.le_refl _) v 0) am cm rfl NM.out (M3.out.below (below_new _ _)) (by simp) hM6 (by simp) ?_)
      intro v4 w4 hO4 hb4
      have hO4' : OwnQ w4 w3.heap.size v4 ((v, 0) :: M) := hO4
      obtain ⟨a4, c4, rfl, hQ4, _⟩ := hO4'.qs
      have D4 := box ((below_new w3 (.cells #[.string v, .int .i64 0] 33)).trans hb4)
      have Q4 := box hQ4
      have R4 := box (Q3.out.below D4.out)
      have F4 := box (F3.out.below D4.out)
      have B4 := box (B3.out.trans (D4.out.mono B3.out.size))
      clear hO4 hO4' hb4 hQ4
      go_wp2_with fail
      refine (mQuality_is (L := M ++ [(v, 0)]) hki (box (by simp)) lA zA hv R4.out QA).mono ?_; rintro e w5 ⟨rfl, hb5⟩
      have B5 := box (B4.out.trans (hb5.mono B4.out.size))
      have R5 := box (R4.out.below hb5)
      have Q5 := box (Q4.out.below hb5)
      have F5 := box (F4.out.below hb5)
      clear hb5
      go_wp2_with fail
      refine (mQuality_is (L := (v, 0) :: M) hki (box (by simp)) lC zC hv Q5.out QC).mono ?_; rintro e w6 ⟨rfl, hb6⟩
      have B6 := box (B5.out.trans (hb6.mono B5.out.size))
      have R6 := box (R5.out.below hb6)
      have F6 := box (F5.out.below hb6)
      clear hb6
      go_wp2_with fail
      refine (mQuality_is (L := L) hki (box rfl) lL zL hv F6.out QL).mono ?_; rintro e w7 ⟨rfl, hb7⟩
      have B7 := box (B6.out.trans (hb7.mono B6.out.size))
      have R7 := box (R6.out.below hb7)
      clear hb7
      go_wp2_with fail
      refine (mRank_is (L := M ++ [(v, 0)]) (V := [v]) hki (box (by simp)) lA zA (box rfl) (box (by simp)) zV (R7.out.below (below_new _ _)) (ss14_one _ _ _) QR).mono ?_; rintro e w8 ⟨p8, c8, rfl, _, hb8⟩
      have B8 := box ((B7.out.alloc B7.out.size _).trans (hb8.mono (B7.out.alloc B7.out.size _).size))
      clear hb8
      go_wp2_with fail
      refine (awake14_any _).mono ?_; rintro e w9 ⟨rfl, hb9⟩
      have B9 := box (B8.out.trans (hb9.mono B8.out.size))
      clear hb9
      go_wp2
      go_ret
      exact ⟨rfl, B9.out⟩
theorem excludes14_walk (k : Int) (a : Option Addr) (cap : Nat) (L : List QP) (v : ByteArray) (w : World) (hk0 : (Lit.int .i64 k).wf = true) (hl : L.length ≤ maxLen) (hF : Qs w a L ∧ ∀ i (h : i < L.length), InI64 L[i].2) (hc : L.length ≤ cap) (S : v.size ≤ maxLen) :
    Calls Try.prog 5 #[.int .i64 k, .slice a L.length cap, .string v] w fun e w' => e = .returned (.bool true) ∧ Below w.heap.size w w' := by
  have hki := in14 hk0
  have F0 := box hF.1
  have HL := box hl
  clear hk0 hF hl hc
  unfold maxLen at S
  rcases hk : keepQ L with _ | _
  · have HK := box hk
    clear hk
    go_enter Try.func5, Try.ntmps5
    go_wp2_with fail
    refine (keepPrefs_any a cap L _ HL.out F0).mono ?_; rintro e w1 ⟨rfl, rfl⟩; rw [HK.out]
    go_wp2
    go_ret
    exact ⟨rfl, Below.refl _ _⟩
  · have HK := box hk
    obtain ⟨b1, b2⟩ := keepQ_bounds hk
    have zL : Box (∀ i (hi : i < L.length), L[i].1.size ≤ 20000) := box (fun i hi => by have := b2 i hi; omega)
    clear hk b2
    by_cases h1 : 100 < v.size
    · have i1 : (100 : Int) < (v.size : Int) := by omega
      go_enter Try.func5, Try.ntmps5
      go_wp2_with fail
      refine (keepPrefs_any a cap L _ HL.out F0).mono ?_; rintro e w1 ⟨rfl, rfl⟩; rw [HK.out]
      go_wp2
      go_ret
      exact ⟨rfl, Below.refl _ _⟩
    · by_cases h2 : k < 1
      · have i1 : ¬ (100 : Int) < (v.size : Int) := by omega
        go_enter Try.func5, Try.ntmps5
        go_wp2_with fail
        refine (keepPrefs_any a cap L _ HL.out F0).mono ?_; rintro e w1 ⟨rfl, rfl⟩; rw [HK.out]
        go_wp2
        go_ret
        exact ⟨rfl, Below.refl _ _⟩
      · by_cases h3 : 4 < k
        · have i1 : ¬ (100 : Int) < (v.size : Int) := by omega
          go_enter Try.func5, Try.ntmps5
          go_wp2_with fail
          refine (keepPrefs_any a cap L _ HL.out F0).mono ?_; rintro e w1 ⟨rfl, rfl⟩; rw [HK.out]
          go_wp2
          go_ret
          exact ⟨rfl, Below.refl _ _⟩
        · obtain ⟨s, hs⟩ : ∃ s, matchP k v.data.toList v.data.toList = s := ⟨_, rfl⟩
          have HS := box hs
          clear hs
          by_cases h4 : s < 0
          · have i1 : ¬ (100 : Int) < (v.size : Int) := by omega
            have hv : v.size ≤ 20000 := by omega
            go_enter Try.func5, Try.ntmps5
            go_wp2_with fail
            refine (keepPrefs_any a cap L _ HL.out F0).mono ?_; rintro e w1 ⟨rfl, rfl⟩; rw [HK.out]
            go_wp2_with fail
            refine (rMatch14_is hki hv hv HS).mono ?_; rintro e w1 ⟨rfl, hb1⟩
            go_wp2
            go_ret
            exact ⟨rfl, hb1⟩
          · exact excludes14_in k s a cap L v w hki HL F0 HK b1 zL (by omega) (by omega) (by omega) (by omega) HS
end
end Go.Proofs.Ytgmfmlcpogbolaa.Asc
