/- Merged texts: KeyMine3 KeyMine4 KeySpec3 VarLaws VarLaws2. -/
import Derived.Test.YtcnohcbhnldglaaGreatM11
import Derived.Test.YtcnohcbhnldglaaGreatM12
import Derived.Test.YtcnohcbhnldglaaGreatM13
import Derived.Test.YtcnohcbhnldglaaGreatM15
import Derived.Test.YtcnohcbhnldglaaGreatM16
import Derived.Test.YtcnohcbhnldglaaGreatM17
import Derived.Test.YtcnohcbhnldglaaGreatM18
set_option linter.unusedVariables false
set_option linter.unusedSimpArgs false
set_option maxRecDepth 100000
namespace Go.Proofs.YtcnohcbhnldglaaGreat.Asc
section
open Go.RowKit
theorem mKeyOf_none {p b : Option Addr} {cp c : Nat} {X : List AX} {r : KY} {w : World} (hx : X.length ≤ 65536) (hr : r.length ≤ 65536) (zx : Box (smallA X)) (zr : Box (∀ v ∈ r, v.size ≤ 65000)) (hX : Axs w p X) (hR : Ss w b r) (h : Box (keyA X r [] = none)) :
    Calls Tryz.prog 44 #[.slice p X.length cp, .slice b r.length c] w fun e w' => ∃ a c, e = .returned (.tuple #[.slice a 0 c, .bool false]) ∧ Below w.heap.size w w' := by
  refine (mKeyOf_any p cp X b c r w hx hr zx zr (box hX) (box hR)).mono ?_
  rintro e w' ⟨v, h1, h2, h3⟩
  rw [h.out] at h1 h2
  obtain ⟨a, c, rfl, _, _⟩ := h2.ss
  exact ⟨a, c, h1, h3⟩
theorem mKeyOf_some {p b : Option Addr} {cp c : Nat} {X : List AX} {r k : KY} {w : World} (hx : X.length ≤ 65536) (hr : r.length ≤ 65536) (zx : Box (smallA X)) (zr : Box (∀ v ∈ r, v.size ≤ 65000)) (hX : Axs w p X) (hR : Ss w b r) (h : Box (keyA X r [] = some k)) :
    Calls Tryz.prog 44 #[.slice p X.length cp, .slice b r.length c] w fun e w' => ∃ a c, e = .returned (.tuple #[.slice a k.length c, .bool true]) ∧ OwnS w' w.heap.size (.slice a k.length c) k ∧ Below w.heap.size w w' := by
  refine (mKeyOf_any p cp X b c r w hx hr zx zr (box hX) (box hR)).mono ?_
  rintro e w' ⟨v, h1, h2, h3⟩
  rw [h.out] at h1 h2
  obtain ⟨a, c, rfl, _, _⟩ := h2.ss
  exact ⟨a, c, h1, h2, h3⟩
set_option maxHeartbeats 4000000 in
theorem mDist_any (p : Option Addr) (cp : Nat) (X : List AX) (a : Option Addr) (cap : Nat) (R : List KY) (w : World) (hx : X.length ≤ 4) (hR : R.length ≤ 64) (zx : Box (smallA X)) (zr : Box (smallK R)) (hX : Box (Axs w p X)) (hF : Box (Kss w a R)) :
    Calls Tryz.prog 23 #[.slice p X.length cp, .slice a R.length cap] w fun e w' => keyW w w' (keysO (keysA X R [])) e := by
  obtain ⟨T, hT⟩ : ∃ T, keysA X R [] = T := ⟨_, rfl⟩
  have HT := box hT
  rw [hT]
  clear hT
  have hx6 : X.length ≤ 65536 := by omega
  go_enter Tryz.func23, Tryz.ntmps23
  go_wp2
  go_loopw [6, 13] (fun v i wr => OkRel X R T w v i wr) (fun _ i _ => R.length - (intOf i).toNat)
  case atStart => exact ⟨0, [], rfl, Nat.zero_le _, Nat.le_refl _, by rw [List.drop_zero]; exact HT.out.symm, box smallK_nil, OwnK.nil _ _, Below.refl _ _⟩
  case round =>
    obtain ⟨w4, rfl⟩ : ∃ w4, w4 = wr := ⟨_, rfl⟩
    obtain ⟨j, out, rfl, hj, hol, hTj, SO, hO, hbel⟩ := hrel
    have O0 := box hO
    have BL := box hbel
    have HTj := box hTj
    have ho64 : out.length ≤ 64 := by omega
    have hBw := hbel.size
    obtain ⟨ao, co, rfl, hks, _⟩ := hO.kss
    have KO := box hks
    clear hO hbel hTj hks
    by_cases hlt : j < R.length
    · have hji : (j : Int) < (R.length : Int) := by omega
      have hj0 : (0 : Int) ≤ (j : Int) := by omega
      obtain ⟨gr, offr, vr, rfl, cR, br, cr, rfl, hsr, _⟩ := (hF.out.below BL.out) j hlt
      obtain ⟨z1, z2⟩ := zr.out _ (List.getElem_mem hlt)
      have hdr : R.drop j = R[j] :: R.drop (j + 1) := List.drop_eq_getElem_cons hlt
      obtain ⟨r, hr⟩ : ∃ r, R[j] = r := ⟨_, rfl⟩
      rw [hr] at cR hsr z1 z2 hdr
      have hr6 : r.length ≤ 65536 := by omega
      have SSr := box hsr
      have Z2 := box z2
      have HXS := box (hX.out.below BL.out)
      cases hk : keyA X r [] with
      | none =>
        have HB : Box (T = none) := box (by rw [HTj.out, hdr]; exact keysA_none hk)
        have HK := box hk
        clear hk hr hdr hsr z2
        go_wp2_with fail
        refine (mKeyOf_none hx6 hr6 zx Z2 HXS.out SSr.out HK).mono ?_; rintro e w5 ⟨a5, c5, rfl, hb5⟩
        have B5 := box (BL.out.trans (hb5.mono hBw))
        clear hb5 cR
        go_wp2
        go_ret2
        exact keyW_no (box (by rw [HB.out]; rfl)) B5.out
      | some k =>
        have HK := box hk
        obtain ⟨k1, k2⟩ := keyA_small hk (by omega) zx.out
        have hk6 : k.length ≤ 65536 := by omega
        obtain ⟨q, hq⟩ : ∃ q, inKy out k = q := ⟨_, rfl⟩
        have HQ := box hq
        have ho6 : out.length ≤ 65536 := by omega
        have HN : Box (T = keysA X (R.drop (j + 1)) (if q = true then out else out ++ [k])) := box (by
          rw [HTj.out, hdr]
          cases q with
          | true => exact keysA_old hk hq
          | false => exact keysA_new hk hq)
        have SO2 : Box (smallK (out ++ [k])) := box (smallK_more SO.out k1 k2)
        have HL2 : Box ((out ++ [k]).length ≤ j + 1) := box (by rw [List.length_append]; simp only [List.length_cons, List.length_nil]; omega)
        clear hk hr hdr hsr z2 k2 hq
        go_wp2_with fail
        refine (mKeyOf_some hx6 hr6 zx Z2 HXS.out SSr.out HK).mono ?_; rintro e w5 ⟨a5, c5, rfl, hO5, hb5⟩
        have B5 := box (BL.out.trans (hb5.mono hBw))
        have O5 := box (O0.out.next hb5)
        have KO5 := box (KO.out.below hb5)
        have V5 := box (show OwnS w5 w.heap.size _ k from Go.Joins.ownsRow_le hO5 hBw)
        have hB5 := B5.out.size
        obtain ⟨ak, ck, e1, hsk, _⟩ := hO5.ss
        injection e1 with e1 e2 e3
        subst e1
        have SK := box hsk
        clear hb5 hO5 cR hsk e2 e3
        cases q with
        | true =>
          go_wp2_with fail
          refine (contains_is ho6 SO hk6 KO5.out SK.out HQ).mono ?_; rintro e w6 ⟨rfl, hb6⟩
          have B6 := box (B5.out.trans (hb6.mono hB5))
          have O6 := box (O5.out.next hb6)
          clear hb6
          go_wp2
          go_roundw
          case rel => exact ⟨j + 1, out, by go_num, by omega, by omega, by rw [HN.out]; rfl, SO, O6.out, B6.out⟩
          case measure => simp [intOf]; omega
        | false =>
          go_wp2_with fail
          refine (contains_is ho6 SO hk6 KO5.out SK.out HQ).mono ?_; rintro e w6 ⟨rfl, hb6⟩
          have B6 := box (B5.out.trans (hb6.mono hB5))
          have O6 := box (O5.out.next hb6)
          have V6 := box (own_below V5.out hb6)
          have hB6 := B6.out.size
          clear hb6
          go_wp2_with (at_builtin; refine wpList_append_key _ rfl (.tmp 29) (.tmp 31) rfl w.heap.size _ out rfl ?a1 _ _ rfl (.slice a5 k.length c5) k ?b1 ?u1 ?c1 ?d1 ?_)
          case a1 => exact O6.out.next (below_new _ _)
          case b1 => go_simp
          case u1 => exact own_below V6.out (below_new _ _)
          case c1 => exact ho6
          case d1 => first | omega | (simp; omega)
          intro v7 w7 hO7 hb7 _ _
          have O7 := box hO7
          have B7 := box ((B6.out.alloc hB6 _).trans hb7)
          clear hO7 hb7
          go_wp2
          go_roundw
          case rel => exact ⟨j + 1, out ++ [k], by go_num, by omega, HL2.out, by rw [HN.out]; rfl, SO2, O7.out, B7.out⟩
          case measure => simp [intOf]; omega
    · have hji : ¬ (j : Int) < (R.length : Int) := by omega
      have HF : Box (T = some out) := box (by rw [HTj.out, List.drop_of_length_le (by omega)]; rfl)
      go_wp2
      go_ret2
      rw [HF.out]
      exact ⟨_, rfl, O0.out, BL.out⟩
theorem vValidK_is {a : Option Addr} {cap : Nat} {L : List AX} {q : Bool} {w : World} (hl : L.length ≤ 65536) (hz : Box (smallA L)) (hF : Axs w a L) (h : Box (validX L = q)) :
    Calls Tryz.prog 20 #[.slice a L.length cap] w fun e w' => e = .returned (.bool q) ∧ Below w.heap.size w w' :=
  (mValid_any a cap L w hl hz (box hF)).mono fun e w' ⟨h1, h2⟩ => ⟨by rw [h1, h.out], h2⟩
theorem keysR_is {L : List F} {X : List AX} (h : validX X = true) (h2 : allL nmKey L ≠ []) : keysR L X = match rawsA (allL nmKey L) [] with
    | none => (1, [])
    | some R => keysO (keysA X R []) := by
  unfold keysR
  rw [if_neg (by rw [h]; simp), if_neg h2]
  cases rawsA (allL nmKey L) [] with
  | none => rfl
  | some R =>
    simp only
    cases keysA X R [] <;> rfl
set_option maxHeartbeats 4000000 in
theorem mParseK_any (a : Option Addr) (cap : Nat) (L : List F) (p : Option Addr) (cp : Nat) (X : List AX) (w : World) (S : Box (Sm L)) (hv : Box (∀ x ∈ getL nmKey L, x.size ≤ 65000)) (hx : X.length ≤ 65536) (zx : Box (smallA X)) (hF : Box (Fs w a L)) (hX : Box (Axs w p X)) :
    Calls Tryz.prog 8 #[.slice a L.length cap, .slice p X.length cp] w fun e w' => keyW w w' (keysR L X) e := by
  have hl := S.out.1
  have hM : Box (nmKey.size ≤ 65536) := box (by decide)
  obtain ⟨r0, hr0⟩ : ∃ r, keysR L X = r := ⟨_, rfl⟩
  rw [hr0]
  cases hh : validX X with
  | false =>
    have HV := box hh
    have HN : Box (r0 = (10, [])) := box (by rw [← hr0, keysR_range hh])
    clear hh hr0
    go_enter Tryz.func8, Tryz.ntmps8
    go_wp2_with fail
    refine (vValidK_is hx zx hX.out HV).mono ?_; rintro e w1 ⟨rfl, hb1⟩
    have B1 := box hb1
    clear hb1
    go_wp2
    go_ret2
    exact keyW_no HN B1.out
  | true =>
    have HV := box hh
    obtain ⟨M, hMM⟩ : ∃ M, allL nmKey L = M := ⟨_, rfl⟩
    have HMB : Box (allB nmKey L = M.map bs) := box (by unfold allB; rw [hMM])
    have HMz : Box (∀ m ∈ M, m.length ≤ 65000) := box (fun m hm => by
      rw [← hMM] at hm
      obtain ⟨x, hx, hle⟩ := all_mem hm
      have := hv.out x hx; omega)
    have hMl : M.length ≤ 64 := by rw [← hMM]; unfold allL; rw [List.length_take]; omega
    by_cases hM0 : M = []
    · have HN : Box (r0 = (12, [])) := box (by rw [← hr0, keysR_state hh (by rw [hMM, hM0])])
      have HM0 : Box (M.map bs = []) := box (by rw [hM0]; rfl)
      clear hh hr0 hMM hM0
      go_enter Tryz.func8, Tryz.ntmps8
      go_wp2_with fail
      refine (vValidK_is hx zx hX.out HV).mono ?_; rintro e w1 ⟨rfl, hb1⟩
      have B1 := box hb1
      have F1 := box (hF.out.below hb1)
      clear hb1
      go_wp2_with fail
      refine (mAll_any a cap L nmKey _ S hv hM F1).mono ?_; rintro e w2 ⟨v2, rfl, hO2, hb2⟩
      rw [HMB.out, HM0.out] at hO2
      obtain ⟨a2, cap2, rfl, _, _⟩ := hO2.ss
      have B2 := box (B1.out.trans (hb2.mono B1.out.size))
      clear hO2 hb2
      go_wp2
      go_ret2
      exact keyW_no HN B2.out
    · have hMp : 0 < M.length := List.length_pos_iff.2 hM0
      have hMi : ((M.length : Int) == 0) = false := by rw [beq_eq_false_iff_ne]; omega
      have HR : Box (r0 = match rawsA M [] with | none => (1, []) | some R => keysO (keysA X R [])) := box (by rw [← hr0, keysR_is hh (by rw [hMM]; exact hM0), hMM])
      have hx4 : X.length ≤ 4 := (validX_len hh).2
      obtain ⟨T, hT⟩ : ∃ T, rawsA M [] = T := ⟨_, rfl⟩
      have HT := box hT
      rw [hT] at HR
      clear hh hr0 hMM hM0 hT
      go_enter Tryz.func8, Tryz.ntmps8
      go_wp2_with fail
      refine (vValidK_is hx zx hX.out HV).mono ?_; rintro e w1 ⟨rfl, hb1⟩
      have B1 := box hb1
      have F1 := box (hF.out.below hb1)
      clear hb1
      go_wp2_with fail
      refine (mAll_any a cap L nmKey _ S hv hM F1).mono ?_; rintro e w2 ⟨v2, rfl, hO2, hb2⟩
      rw [HMB.out] at hO2
      obtain ⟨a2, cap2, rfl, hS2, hc2⟩ := hO2.ss
      rw [List.length_map] at hc2 ⊢
      have S2 := box hS2
      have B2 := box (B1.out.trans (hb2.mono B1.out.size))
      have hs2 := B2.out.size
      clear hO2 hS2 hb2
      go_wp2
      go_loopw [7, 22] (fun v i wr => RawRel M T w2 v i wr) (fun _ i _ => M.length - (intOf i).toNat)
      case atStart => exact ⟨0, [], rfl, Nat.zero_le _, rfl, by rw [List.drop_zero]; exact HT.out.symm, box smallK_nil, OwnK.nil _ _, Below.refl _ _⟩
      case round =>
        obtain ⟨w3, rfl⟩ : ∃ w3, w3 = wr := ⟨_, rfl⟩
        obtain ⟨j, R, rfl, hj, haj, hTj, SR, hO, hbel⟩ := hrel
        have O0 := box hO
        have BL := box hbel
        have HTj := box hTj
        have HAJ := box haj
        have hRl : R.length ≤ 64 := by omega
        have hBw := hbel.size
        obtain ⟨av, cv, rfl, hks, _⟩ := hO.kss
        have KS := box hks
        clear hO hbel hTj hks haj
        by_cases hlt : j < M.length
        · have hji : (j : Int) < (M.length : Int) := by omega
          have hmem := List.getElem_mem hlt
          obtain ⟨q', off', e, c1⟩ := (S2.out.below BL.out) j (by rw [List.length_map]; exact hlt)
          rw [List.getElem_map] at c1
          cases e
          have hdr : M.drop j = M[j] :: M.drop (j + 1) := List.drop_eq_getElem_cons hlt
          have hmz := HMz.out M[j] hmem
          obtain ⟨x, hx1⟩ : ∃ x, bs M[j] = x := ⟨_, rfl⟩
          have hxd : x.data.toList = M[j] := by rw [← hx1]; rfl
          rw [hx1] at c1
          have hlx : x.data.toList.length = x.size := by simp
          have hxz : x.size ≤ 65000 := by rw [← hlx, hxd]; exact hmz
          rcases hvv : valuesL x.data.toList with _ | V
          · have HB : Box (r0 = (1, [])) := box (by rw [HR.out, HTj.out, hdr, rawsA_none (by rw [← hxd]; exact hvv)])
            have HVV := box hvv
            clear hx1 hdr hmem hmz hxd hlx hvv
            go_wp2_with fail
            refine (grpParse_none hxz HVV).mono ?_; rintro e w4 ⟨rfl, hb4⟩
            have B4 := box (BL.out.trans (hb4.mono hBw))
            clear hb4
            go_wp2
            go_ret2
            exact keyW_no HB (B2.out.trans (B4.out.mono hs2))
          · have HN : Box (T = rawsA (M.drop (j + 1)) (R ++ [V.map bs])) := box (by rw [HTj.out, hdr]; exact rawsA_some (by rw [← hxd]; exact hvv))
            have hsm := raw_small hvv (by rw [hlx]; exact hxz)
            have SR2 : Box (smallK (R ++ [V.map bs])) := box (smallK_more SR.out hsm.1 hsm.2)
            have HL2 : Box ((R ++ [V.map bs]).length = j + 1) := box (by rw [List.length_append, HAJ.out]; rfl)
            have HVV := box hvv
            clear hx1 hdr hmem hmz hxd hlx hvv hsm
            go_wp2_with fail
            refine (grpParse_some hxz HVV).mono ?_; rintro e w4 ⟨a4, c4, rfl, hO4, hb4⟩
            have O4 := box (O0.out.next hb4)
            have V4 := box (show OwnS w4 w2.heap.size _ (V.map bs) from Go.Joins.ownsRow_le hO4 hBw)
            have B4 := box (BL.out.trans (hb4.mono hBw))
            have hBw4 := B4.out.size
            clear hO4 hb4 c1
            go_wp2_with (at_builtin; refine wpList_append_key _ rfl (.tmp 33) (.tmp 35) rfl w2.heap.size _ R rfl ?a1 _ _ rfl (.slice a4 V.length c4) (V.map bs) ?b1 ?u1 ?c1 ?d1 ?_)
            case a1 => exact O4.out.next (below_new _ _)
            case b1 => go_simp
            case u1 => exact own_below V4.out (below_new _ _)
            case c1 => omega
            case d1 => first | omega | (simp; omega)
            intro v6 w6 hO6 hb6 _ _
            have O6 := box hO6
            have B6 := box ((B4.out.alloc hBw4 _).trans hb6)
            clear hO6 hb6
            go_wp2
            go_roundw
            case rel => exact ⟨j + 1, R ++ [V.map bs], by go_num, by omega, HL2.out, HN.out, SR2, O6.out, B6.out⟩
            case measure => simp [intOf]; omega
        · have hji : ¬ (j : Int) < (M.length : Int) := by omega
          have HF : Box (keysO (keysA X R []) = r0) := box (by rw [HR.out, HTj.out, List.drop_of_length_le (by omega)]; rfl)
          have BW3 := box (B2.out.trans (BL.out.mono hs2))
          have hs3 := BW3.out.size
          have HX3 := box (hX.out.below BW3.out)
          clear HMz HTj HT O0 BL
          go_wp2_with fail
          refine (mDist_any p cp X av cv R _ hx4 hRl zx SR HX3 KS).mono ?_; rintro e w4 ⟨v4, rfl, hO4, hb4⟩
          rw [HF.out] at hO4 ⊢
          have O4 := box (hO4.le hs3)
          have B4 := box (BW3.out.trans (hb4.mono hs3))
          obtain ⟨r1, r2⟩ := r0
          clear hO4 hb4
          go_wp2
          go_ret2
          exact ⟨_, rfl, O4.out, B4.out⟩
end
section
open Go.RowKit
theorem grpFormat_is {a : Option Addr} {cap : Nat} {V : List ByteArray} {x : ByteArray} {w : World} (hl : V.length ≤ 20) (hz : Box (∀ v ∈ V, v.size ≤ 1000)) (hF : Ss w a V) (hx : Box (keyT V = x)) :
    Calls Tryz.prog 29 #[.slice a V.length cap] w fun e w' => e = .returned (.string x) ∧ Below w.heap.size w w' :=
  grpFormat_any a cap V x w hl hz (box hF) (box hx.out)
set_option maxHeartbeats 4000000 in
theorem mFmtKeys_any (a : Option Addr) (cap : Nat) (K : List KY) (w : World) (hl : K.length ≤ 65536) (hz : Box (fitK K)) (hF : Box (Kss w a K)) :
    Calls Tryz.prog 14 #[.slice a K.length cap] w fun e w' => e = .returned (.string (keysT K)) ∧ Below w.heap.size w w' := by
  go_enter Tryz.func14, Tryz.ntmps14
  go_wp2
  go_loopw [3, 8] (fun v i wr => FkRel K w v i wr) (fun _ i _ => K.length - (intOf i).toNat)
  case atStart => exact ⟨0, rfl, Nat.zero_le _, OwnS.nil _ _, Below.refl _ _⟩
  case round =>
    obtain ⟨k, rfl, hk, hO, hbel⟩ := hrel
    have O0 := box hO
    have BL := box hbel
    have hs0 := hbel.size
    obtain ⟨av, cv, rfl, hss0, hcv⟩ := hO.ss
    have SS0 := box hss0
    rw [keyT_len hk] at O0 hcv ⊢
    clear hO hbel hss0
    by_cases hlt : k < K.length
    · have hki : (k : Int) < (K.length : Int) := by omega
      have hk0 : (0 : Int) ≤ (k : Int) := by omega
      obtain ⟨g, off, v, rfl, c0, b, c, rfl, hss, _⟩ := (hF.out.below BL.out) k hlt
      obtain ⟨z1, z2⟩ := hz.out _ (List.getElem_mem hlt)
      have HT := box (keyT_more hlt)
      obtain ⟨V, hV⟩ : ∃ V, K[k] = V := ⟨_, rfl⟩
      rw [hV] at c0 hss z1 z2 HT
      have SS := box hss
      have Z2 := box z2
      obtain ⟨x, hx⟩ : ∃ x, keyT V = x := ⟨_, rfl⟩
      rw [hx] at HT
      have HX := box hx
      have hlen : Box (((K.take k).map keyT).length ≤ 65536) := box (by rw [keyT_len hk]; omega)
      clear hss z2 hV hx SS0
      go_wp2_with fail
      refine (grpFormat_is z1 Z2 SS.out HX).mono ?_; rintro e w2 ⟨rfl, hb2⟩
      have O2 := box (own_below O0.out hb2)
      have B2 := box (BL.out.trans (hb2.mono hs0))
      have hs2 := B2.out.size
      clear hb2 c0
      go_wp2_with (at_builtin; refine wpList_append_str _ rfl (.tmp 12) (.tmp 15) rfl w.heap.size _ ((K.take k).map keyT) rfl ?a1 _ _ rfl x ?b1 ?c1 ?d1 ?_)
      case a1 => exact own_below O2.out (below_new _ _)
      case b1 => go_simp
      case c1 => exact hlen.out
      case d1 => first | omega | (simp; omega)
      intro v3 w3 hO3 hb3
      have O3 := box hO3
      have B3 := box ((B2.out.alloc hs2 _).trans hb3)
      clear hO3 hb3
      go_wp2
      go_roundw
      case rel => exact ⟨k + 1, by go_num, by omega, by rw [HT.out, List.map_take]; exact O3.out, B3.out⟩
      case measure => simp [intOf]; omega
    · have hki : ¬ (k : Int) < (K.length : Int) := by omega
      obtain rfl : k = K.length := by omega
      rw [List.take_length] at SS0
      have HJ : Box (joinB (K.map keyT) = keysT K) := box rfl
      have hml : Box ((K.map keyT).length = K.length) := box (List.length_map _)
      have hsz := box (keysT_small hz.out)
      go_wp2_with fail
      refine (vJoin_is hml hl hcv hsz SS0 HJ).mono ?_; rintro e w3 ⟨rfl, hb3⟩
      have B3 := box (BL.out.trans (hb3.mono hs0))
      clear hb3
      go_wp2
      go_ret
      exact ⟨rfl, B3.out⟩
set_option maxHeartbeats 4000000 in
theorem mSameKey_any (p : Option Addr) (cp : Nat) (X : List AX) (pa pb : Option Addr) (ca cb : Nat) (a b : KY) (w : World) (hx : X.length ≤ 65536) (ha : a.length ≤ 65536) (hb : b.length ≤ 65536) (zx : Box (smallA X)) (za : Box (∀ v ∈ a, v.size ≤ 65000)) (zb : Box (∀ v ∈ b, v.size ≤ 65000)) (hX : Box (Axs w p X)) (hA : Box (Ss w pa a)) (hB : Box (Ss w pb b)) :
    Calls Tryz.prog 16 #[.slice p X.length cp, .slice pa a.length ca, .slice pb b.length cb] w fun e w' => e = .returned (.bool (sameK X a b)) ∧ Below w.heap.size w w' := by
  by_cases h1 : a.length = X.length
  · have n1 : ((a.length : Int) != (X.length : Int)) = false := by simp [h1]
    by_cases h2 : b.length = X.length
    · have n2 : ((b.length : Int) != (X.length : Int)) = false := by simp [h2]
      obtain ⟨q, hq⟩ : ∃ q, sameK X a b = q := ⟨_, rfl⟩
      have HQ : Box (sameN X a b X.length = q) := box (by rw [← hq, sameK_is h1 h2])
      have L1 := box h1
      have L2 := box h2
      rw [hq]
      clear hq h1 h2
      go_enter Tryz.func16, Tryz.ntmps16
      go_wp2
      go_loopw [23] (fun i wr => AkRel X a b w i wr) (fun i _ => X.length - (intOf i).toNat)
      case atStart => exact ⟨0, rfl, Nat.zero_le _, rfl, box (Below.refl _ _)⟩
      case round =>
        obtain ⟨w4, rfl⟩ : ∃ w4, w4 = wr := ⟨_, rfl⟩
        obtain ⟨j, rfl, hj, htk, B0⟩ := hrel
        have HTK := box htk
        have hs0 := B0.out.size
        clear htk
        by_cases hlt : j < X.length
        · have l1 : j < a.length := by rw [L1.out]; exact hlt
          have l2 : j < b.length := by rw [L2.out]; exact hlt
          have i1 : (0 : Int) ≤ (j : Int) := by omega
          have i2 : (j : Int) < (X.length : Int) := by omega
          have i3 : (j : Int) < (a.length : Int) := by omega
          have i4 : (j : Int) < (b.length : Int) := by omega
          obtain ⟨g, off, v, rfl, c0, c1, bv, cv, rfl, _⟩ := (hX.out.below B0.out) j hlt
          obtain ⟨g1, off1, rfl, d1⟩ := (hA.out.below B0.out) j l1
          obtain ⟨g2, off2, rfl, d2⟩ := (hB.out.below B0.out) j l2
          have z1 := smallA_name zx.out hlt
          have z2 := za.out _ (List.getElem_mem l1)
          have z3 := zb.out _ (List.getElem_mem l2)
          have e1 : (atA X j).1 = X[j].1 := by rw [atA_is hlt]
          have e2 : atS a j = a[j] := atS_is l1
          have e3 : atS b j = b[j] := atS_is l2
          obtain ⟨V, hV⟩ : ∃ n, X[j].2 = n := ⟨_, rfl⟩
          obtain ⟨n, hn⟩ : ∃ n, X[j].1 = n := ⟨_, rfl⟩
          obtain ⟨x, hxx⟩ : ∃ n, a[j] = n := ⟨_, rfl⟩
          obtain ⟨y, hy⟩ : ∃ n, b[j] = n := ⟨_, rfl⟩
          rw [hn] at c0 z1 e1
          rw [hV] at c1
          rw [hxx] at d1 z2 e2
          rw [hy] at d2 z3 e3
          obtain ⟨r, hr⟩ : ∃ r, sameV n x y = r := ⟨_, rfl⟩
          have HR := box hr
          have HE : sameV (atA X j).1 (atS a j) (atS b j) = r := by rw [e1, e2, e3, hr]
          have HXF : Box (r = false → q = false) := box (fun e => by rw [← HQ.out]; exact sameN_no hlt (by rw [HE, e]))
          have HXT : Box (r = true → sameN X a b (j + 1) = true) := box (fun e => by rw [sameN_more, HTK.out, HE, e]; rfl)
          obtain ⟨w5, hw5⟩ : ∃ w5, w4.alloc (.cells #[.string n, .slice bv V.length cv] 42) = w5 := ⟨_, rfl⟩
          have HW5 := box hw5
          have B5 : Box (Below w4.heap.size w4 w5) := box (by rw [← hw5]; exact below_new _ _)
          have c5 : w5.cell? ⟨w4.heap.size, 0, none⟩ = some (.string n) := by rw [← hw5, World.cell?_alloc_at (hn := rfl)]; rfl
          have d1' := (B5.out.cell (cell_lt d1)).trans d1
          have d2' := (B5.out.cell (cell_lt d2)).trans d2
          have BW5 := box (B0.out.trans (B5.out.mono hs0))
          have hs5 := BW5.out.size
          clear hr hn hxx hy e1 e2 e3 HE hV hw5
          cases r with
          | false =>
            have HX : Box (q = false) := box (HXF.out rfl)
            go_wp2
            rw [HW5.out]
            go_region_held3 (fun w' => w'.cell? ⟨w4.heap.size, 0, none⟩ = some (.string n) ∧ w'.cell? ⟨g1, off1 + j, none⟩ = some (.string x) ∧ w'.cell? ⟨g2, off2 + j, none⟩ = some (.string y)) (first | exact ⟨(hb5.cell (cell_lt c5)).trans c5, (hb5.cell (cell_lt d1')).trans d1', (hb5.cell (cell_lt d2')).trans d2'⟩ | exact ⟨c5, d1', d2'⟩) (first | (go_at_call 33; refine (vSame16_is z1 z2 z3 HR).mono ?_; rintro e w7 ⟨rfl, hb5⟩))
            all_goals
              have B7 := box (BW5.out.trans (((below_drewN _ _).trans hb5).mono hs5))
              clear hb5
              go_wp2
              go_ret
              exact ⟨by rw [HX.out]; rfl, B7.out⟩
          | true =>
            have HX : Box (sameN X a b (j + 1) = true) := box (HXT.out rfl)
            go_wp2
            rw [HW5.out]
            go_region_held3 (fun w' => w'.cell? ⟨w4.heap.size, 0, none⟩ = some (.string n) ∧ w'.cell? ⟨g1, off1 + j, none⟩ = some (.string x) ∧ w'.cell? ⟨g2, off2 + j, none⟩ = some (.string y)) (first | exact ⟨(hb5.cell (cell_lt c5)).trans c5, (hb5.cell (cell_lt d1')).trans d1', (hb5.cell (cell_lt d2')).trans d2'⟩ | exact ⟨c5, d1', d2'⟩) (first | (go_at_call 33; refine (vSame16_is z1 z2 z3 HR).mono ?_; rintro e w7 ⟨rfl, hb5⟩))
            all_goals
              have B7 := box (BW5.out.trans (((below_drewN _ _).trans hb5).mono hs5))
              clear hb5
              go_wp2
              go_roundw
              case rel => exact ⟨j + 1, by go_num, by omega, HX.out, B7⟩
              case measure => simp [intOf]; omega
        · have e : j = X.length := by omega
          have E : Box (q = true) := box (by rw [← HQ.out, ← e]; exact HTK.out)
          clear e
          go_wp2
          go_ret
          exact ⟨by rw [E.out]; rfl, B0.out⟩
    · have n2 : ((b.length : Int) != (X.length : Int)) = true := by simp; omega
      have HN := box (sameK_no2 (a := a) h2)
      clear h1 h2
      go_enter Tryz.func16, Tryz.ntmps16
      go_wp2
      go_ret
      exact ⟨by rw [HN.out]; rfl, Below.refl _ _⟩
  · have n1 : ((a.length : Int) != (X.length : Int)) = true := by simp; omega
    have HN := box (sameK_no1 (b := b) h1)
    clear h1
    go_enter Tryz.func16, Tryz.ntmps16
    go_wp2
    go_ret
    exact ⟨by rw [HN.out]; rfl, Below.refl _ _⟩
end
section
theorem keysA_facts {X : List AX} : ∀ (R out K : List KY), keysA X R out = some K → K.length ≤ out.length + R.length ∧ out.length ≤ K.length ∧ (R ≠ [] → K ≠ []) ∧ ∀ k ∈ K, k ∈ out ∨ ∃ r, keyA X r [] = some k
  | [], out, K, h => by
    cases h
    exact ⟨by simp, Nat.le_refl _, fun h => absurd rfl h, fun k hk => .inl hk⟩
  | r :: R, out, K, h => by
    cases hk : keyA X r [] with
    | none => rw [keysA_none hk] at h; cases h
    | some k =>
      cases hin : inKy out k with
      | true =>
        rw [keysA_old hk hin] at h
        obtain ⟨h1, h2, h3, h4⟩ := keysA_facts R out K h
        refine ⟨by rw [List.length_cons]; omega, h2, fun _ e => ?_, h4⟩
        subst e
        have : out = [] := List.eq_nil_of_length_eq_zero (by simpa using h2)
        rw [this] at hin; cases hin
      | false =>
        rw [keysA_new hk hin] at h
        obtain ⟨h1, h2, h3, h4⟩ := keysA_facts R _ K h
        rw [List.length_append] at h1 h2
        simp only [List.length_cons, List.length_nil] at h1 h2
        refine ⟨by rw [List.length_cons]; omega, by omega, fun _ e => ?_, fun x hx => ?_⟩
        · subst e; simp at h2
        · rcases h4 x hx with q | q
          · rcases List.mem_append.1 q with q | q
            · exact .inl q
            · rw [List.mem_singleton.1 q]; exact .inr ⟨r, hk⟩
          · exact .inr q
/-- what Parse gives, whatever is read -/
theorem keys_facts {L : List F} {X : List AX} {k : Int} {K : List KY} (h : keysR L X = (k, K)) (hv : ∀ x ∈ getL nmKey L, x.size ≤ 65000) :
    K.length ≤ 64 ∧ (k ≠ 0 → K = []) ∧ (k = 0 → K ≠ [] ∧ validX X = true ∧ L.any (nmd nmKey) = true) ∧ ∀ y ∈ K, ∃ r, keyA X r [] = some y := by
  have no : ∀ c : Int, c ≠ 0 → (c, ([] : List KY)) = (k, K) → K.length ≤ 64 ∧ (k ≠ 0 → K = []) ∧ (k = 0 → K ≠ [] ∧ validX X = true ∧ L.any (nmd nmKey) = true) ∧ ∀ y ∈ K, ∃ r, keyA X r [] = some y := by
    intro c hc e
    injection e with e1 e2
    subst e1 e2
    exact ⟨by simp, fun _ => rfl, fun h => absurd h hc, fun y hy => by cases hy⟩
  obtain ⟨q, hx⟩ : ∃ q, validX X = q := ⟨_, rfl⟩
  cases q with
  | false => rw [keysR_range hx] at h; exact no 10 (by decide) h
  | true =>
    by_cases hm : allL nmKey L = []
    · rw [keysR_state hx hm] at h; exact no 12 (by decide) h
    · cases hr : rawsA (allL nmKey L) [] with
      | none => rw [keysR_bad hx hm hr] at h; exact no 1 (by decide) h
      | some R =>
        cases hk : keysA X R [] with
        | none => rw [keysR_lim hx hm hr hk] at h; exact no 11 (by decide) h
        | some K' =>
          rw [keysR_ok hx hm hr hk] at h
          injection h with e1 e2
          subst e1 e2
          obtain ⟨h1, _, h3, h4⟩ := keysA_facts R [] K' hk
          obtain ⟨_, hl⟩ := rawsA_small _ [] R hr smallK_nil (fun m hmm => by obtain ⟨x, hx, hle⟩ := all_mem hmm; have := hv x hx; omega)
          have hml : (allL nmKey L).length ≤ 64 := by unfold allL; rw [List.length_take]; omega
          have hne : R ≠ [] := by
            intro e
            rw [e] at hl
            exact hm (List.eq_nil_of_length_eq_zero (by simpa using hl.symm))
          refine ⟨by simp only [List.length_nil] at h1 hl; omega, fun h => absurd rfl h, fun _ => ⟨h3 hne, hx, ?_⟩, fun y hy => ?_⟩
          · cases ha : L.any (nmd nmKey) with
            | true => rfl
            | false =>
              exfalso
              apply hm
              unfold allL allF
              rw [show getL nmKey L = [] from get_none ha]
              rfl
          · rcases h4 y hy with q | q
            · cases q
            · exact q
theorem keys_small {L : List F} {X : List AX} {k : Int} {K : List KY} (h : keysR L X = (k, K)) (hv : ∀ x ∈ getL nmKey L, x.size ≤ 65000) (hx : X.length ≤ 65000) (hz : smallA X) : smallK K := fun y hy => by
  obtain ⟨r, hr⟩ := (keys_facts h hv).2.2.2 y hy
  exact keyA_small hr hx hz
end
section
open Go.RowKit
theorem rValidL_is {a : Option Addr} {cap : Nat} {L : List AX} {q : Bool} {w : World} (hl : L.length ≤ 65536) (hz : Box (smallA L)) (hF : Axs w a L) (h : Box (validX L = q)) :
    Calls Tryz.prog 18 #[.slice a L.length cap] w fun e w' => e = .returned (.bool q) ∧ Below w.heap.size w w' :=
  (rValid_any a cap L w hl hz (box hF)).mono fun e w' ⟨h1, h2⟩ => ⟨by rw [h1, h.out], h2⟩
theorem fs_one15 (a b : ByteArray) (w : World) (t : TypeId) : Fs (w.alloc (.cells #[.string a, .string b] t)) (some ⟨w.heap.size, 0, none⟩) [(a, b)] := by
  intro i hi
  refine ⟨w.heap.size, 0, rfl, ?_, ?_⟩
  all_goals
    rw [World.cell?_alloc_mark]
    match i, hi with
    | 0, _ => rfl
theorem one_sm15 {n v : ByteArray} (h1 : n.size ≤ 65536) (h2 : v.size ≤ 65536) : Sm [(n, v)] := by
  refine ⟨by simp, fun i hi => ?_⟩
  match i, hi with
  | 0, _ => exact ⟨h1, h2⟩
theorem get_small15 {nm n v : ByteArray} (h : v.size ≤ 65000) : ∀ x ∈ getL nm [(n, v)], x.size ≤ 65000 := by
  intro x hx
  unfold getL at hx
  obtain ⟨p, hp, rfl⟩ := List.mem_map.1 hx
  have := (List.mem_filter.1 hp).1
  rw [List.mem_singleton] at this
  rw [this]; exact h
def aw15A : ByteArray := ⟨#[97, 99, 99, 101, 112, 116, 45, 108, 97, 110, 103, 117, 97, 103, 101]⟩
def aw15B : ByteArray := ⟨#[97, 99, 99, 101, 112, 116, 45, 101, 110, 99, 111, 100, 105, 110, 103]⟩
def aw15X : List AX := [(aw15A, [⟨#[101, 110]⟩, ⟨#[102, 114]⟩]), (aw15B, [⟨#[103, 122, 105, 112]⟩, ⟨#[105, 100, 101, 110, 116, 105, 116, 121]⟩])]
theorem aw15_fit : fitX aw15X := by
  intro i hi
  match i, hi with
  | 0, _ => exact (show fitA (aw15A, [⟨#[101, 110]⟩, ⟨#[102, 114]⟩]) from ⟨by decide, by decide, by decide⟩)
  | 1, _ => exact (show fitA (aw15B, [⟨#[103, 122, 105, 112]⟩, ⟨#[105, 100, 101, 110, 116, 105, 116, 121]⟩]) from ⟨by decide, by decide, by decide⟩)
theorem ss_two15 (x y : ByteArray) (w : World) (t : TypeId) : Ss (w.alloc (.cells #[.string x, .string y] t)) (some ⟨w.heap.size, 0, none⟩) [x, y] := by
  intro i hi
  refine ⟨w.heap.size, 0, rfl, ?_⟩
  rw [World.cell?_alloc_mark]
  match i, hi with
  | 0, _ => rfl
  | 1, _ => rfl
end
section
open Go.RowKit
theorem keepAx_is {a : Option Addr} {cap : Nat} {L : List AX} {q : Bool} {w : World} (hl : L.length ≤ maxLen) (hF : Axs w a L ∧ ∀ i (hi : i < L.length), L[i].2.length ≤ maxLen) (h : Box (keepA L = q)) :
    Calls Tryz.prog 7 #[.slice a L.length cap] w fun e w' => e = .returned (.bool q) ∧ w = w' :=
  (keepAxes_any a cap L w hl (box hF.1) (box hF.2)).mono fun e w' ⟨h1, h2⟩ => ⟨by rw [h1, h.out], h2⟩
theorem keepF15_is {a : Option Addr} {cap : Nat} {L : List F} {q : Bool} {w : World} (hl : L.length ≤ maxLen) (hF : Fs w a L) (h : Box (keepF L = q)) :
    Calls Tryz.prog 6 #[.slice a L.length cap] w fun e w' => e = .returned (.bool q) ∧ w = w' :=
  (keepFields_any a cap L w hl (box hF)).mono fun e w' ⟨h1, h2⟩ => ⟨by rw [h1, h.out], h2⟩
theorem keep_sm15 {L : List F} (h : keepF L = true) (nm : ByteArray) : Sm L ∧ ∀ x ∈ getL nm L, x.size ≤ 65000 := by
  obtain ⟨h1, h2⟩ := keep_parts h
  refine ⟨⟨by omega, fun i hi => by have := h2 i hi; omega⟩, fun x hx => ?_⟩
  unfold getL at hx
  obtain ⟨p, hp, rfl⟩ := List.mem_map.1 hx
  obtain ⟨i, hi, rfl⟩ := List.getElem_of_mem (List.mem_filter.1 hp).1
  have := h2 i hi; omega
end
end Go.Proofs.YtcnohcbhnldglaaGreat.Asc
