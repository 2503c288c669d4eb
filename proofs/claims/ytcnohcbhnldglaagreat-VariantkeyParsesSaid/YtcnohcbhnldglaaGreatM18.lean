/- Merged texts: KeyRef2. -/
import Derived.Test.YtcnohcbhnldglaaGreatM17
set_option linter.unusedVariables false
set_option linter.unusedSimpArgs false
set_option maxRecDepth 100000
namespace Go.Proofs.YtcnohcbhnldglaaGreat.Asc
section
open Go.RowKit
theorem rValidK_is {a : Option Addr} {cap : Nat} {L : List AX} {q : Bool} {w : World} (hl : L.length ≤ 65536) (hz : Box (smallA L)) (hF : Axs w a L) (h : Box (validX L = q)) :
    Calls Tryz.prog 18 #[.slice a L.length cap] w fun e w' => e = .returned (.bool q) ∧ Below w.heap.size w w' :=
  (rValid_any a cap L w hl hz (box hF)).mono fun e w' ⟨h1, h2⟩ => ⟨by rw [h1, h.out], h2⟩
def keyW (w w' : World) (r : Int × List KY) (e : Ending) : Prop := ∃ v, e = .returned (.tuple #[v, .int .i64 r.1]) ∧ OwnK w' w.heap.size v r.2 ∧ Below w.heap.size w w'
theorem keyW_no {w w' : World} {r : Int × List KY} {k : Int} (h : Box (r = (k, []))) (hb : Below w.heap.size w w') : keyW w w' r (.returned (.tuple #[.slice none 0 0, .int .i64 k])) := by
  rw [h.out]
  exact ⟨_, rfl, OwnK.nil _ _, hb⟩
def RawRel (M : List (List UInt8)) (T : Option (List KY)) (W : World) (v i : Value) (wr : World) : Prop :=
  ∃ (j : Nat) (acc : List KY), i = .int .i64 j ∧ j ≤ M.length ∧ acc.length = j ∧ T = rawsA (M.drop j) acc ∧ Box (smallK acc) ∧ OwnK wr W.heap.size v acc ∧ Below W.heap.size W wr
def OkRel (X : List AX) (R : List KY) (T : Option (List KY)) (W : World) (v i : Value) (wr : World) : Prop :=
  ∃ (j : Nat) (out : List KY), i = .int .i64 j ∧ j ≤ R.length ∧ out.length ≤ j ∧ T = keysA X (R.drop j) out ∧ Box (smallK out) ∧ OwnK wr W.heap.size v out ∧ Below W.heap.size W wr
def KkRel (X : List AX) (r : KY) (T : Option KY) (W : World) (v i : Value) (wr : World) : Prop :=
  ∃ (m : Nat) (acc : KY), i = .int .i64 m ∧ m ≤ X.length ∧ acc.length = m ∧ T = keyA (X.drop m) (r.drop m) acc ∧ Box (∀ v ∈ acc, v.size ≤ 65000) ∧ OwnS wr W.heap.size v acc ∧ Below W.heap.size W wr
def HkRel (n : ByteArray) (V : List ByteArray) (x : ByteArray) (W : World) (v i : Value) (wr : World) : Prop :=
  ∃ j : Nat, i = .int .i64 j ∧ j ≤ V.length ∧ v = .int .i64 (hitI (hitK (n, V) x j)) ∧ Box (Below W.heap.size W wr)
def NkRel (out : List KY) (key : KY) (W : World) (v i : Value) (wr : World) : Prop :=
  ∃ j : Nat, i = .int .i64 j ∧ j ≤ out.length ∧ v = .bool (inKy (out.take j) key) ∧ Box (Below W.heap.size W wr)
set_option maxHeartbeats 16000000 in
theorem rParseK_any (a : Option Addr) (cap : Nat) (L : List F) (p : Option Addr) (cp : Nat) (X : List AX) (w : World) (S : Box (Sm L)) (hv : Box (∀ x ∈ getL nmKey L, x.size ≤ 65000)) (hx : X.length ≤ 65536) (zx : Box (smallA X)) (hF : Box (Fs w a L)) (hX : Box (Axs w p X)) :
    Calls Tryz.prog 9 #[.slice a L.length cap, .slice p X.length cp] w fun e w' => keyW w w' (keysR L X) e := by
  have hl := S.out.1
  have hM : Box (nmKey.size ≤ 65536) := box (by decide)
  obtain ⟨r0, hr0⟩ : ∃ r, keysR L X = r := ⟨_, rfl⟩
  rw [hr0]
  cases hh : validX X with
  | false =>
    have HV := box hh
    have HN : Box (r0 = (10, [])) := box (by rw [← hr0, keysR_range hh])
    clear hh hr0
    go_enter Tryz.func9, Tryz.ntmps9
    go_wp2_with fail
    refine (rValidK_is hx zx hX.out HV).mono ?_; rintro e w1 ⟨rfl, hb1⟩
    have B1 := box hb1
    clear hb1
    go_wp2
    go_ret2
    exact keyW_no HN B1.out
  | true =>
    have HV := box hh
    obtain ⟨M, hMM⟩ : ∃ M, allL nmKey L = M := ⟨_, rfl⟩
    have HMB : Box (allB nmKey L = M.map bs) := box (by unfold allB; rw [hMM])
    have HMz : Box (∀ m ∈ M, m.length ≤ 65000) := box (fun m hm => by
      rw [← hMM] at hm
      obtain ⟨x, hx, hle⟩ := all_mem hm
      have := hv.out x hx; omega)
    have hMl : M.length ≤ 64 := by rw [← hMM]; unfold allL; rw [List.length_take]; omega
    by_cases hM0 : M = []
    · have HN : Box (r0 = (12, [])) := box (by rw [← hr0, keysR_state hh (by rw [hMM, hM0])])
      have HM0 : Box (M.map bs = []) := box (by rw [hM0]; rfl)
      clear hh hr0 hMM hM0
      go_enter Tryz.func9, Tryz.ntmps9
      go_wp2_with fail
      refine (rValidK_is hx zx hX.out HV).mono ?_; rintro e w1 ⟨rfl, hb1⟩
      have B1 := box hb1
      have F1 := box (hF.out.below hb1)
      clear hb1
      go_wp2_with fail
      refine (rAll_any a cap L nmKey _ S hv hM F1).mono ?_; rintro e w2 ⟨v2, rfl, hO2, hb2⟩
      rw [HMB.out, HM0.out] at hO2
      obtain ⟨a2, cap2, rfl, _, _⟩ := hO2.ss
      have B2 := box (B1.out.trans (hb2.mono B1.out.size))
      clear hO2 hb2
      go_wp2
      go_ret2
      exact keyW_no HN B2.out
    · have hMp : 0 < M.length := List.length_pos_iff.2 hM0
      have hMi : ((M.length : Int) == 0) = false := by rw [beq_eq_false_iff_ne]; omega
      have HBad : Box (rawsA M [] = none → r0 = (1, [])) := box (fun h => by rw [← hr0]; exact keysR_bad hh (by rw [hMM]; exact hM0) (by rw [hMM]; exact h))
      have HLim : Box (∀ R, rawsA M [] = some R → keysA X R [] = none → r0 = (11, [])) := box (fun R h1 h2 => by rw [← hr0]; exact keysR_lim hh (by rw [hMM]; exact hM0) (by rw [hMM]; exact h1) h2)
      have HOk : Box (∀ R K, rawsA M [] = some R → keysA X R [] = some K → r0 = (0, K)) := box (fun R K h1 h2 => by rw [← hr0]; exact keysR_ok hh (by rw [hMM]; exact hM0) (by rw [hMM]; exact h1) h2)
      have HUni : Box (∀ i (hi : i < X.length), uniV X[i]) := box (fun i hi => valid_uni (validX_at hh i hi))
      have hx4 : X.length ≤ 4 := (validX_len hh).2
      obtain ⟨T, hT⟩ : ∃ T, rawsA M [] = T := ⟨_, rfl⟩
      have HT := box hT
      clear hh hr0 hMM hM0 hT
      go_enter Tryz.func9, Tryz.ntmps9
      go_wp2_with fail
      refine (rValidK_is hx zx hX.out HV).mono ?_; rintro e w1 ⟨rfl, hb1⟩
      have B1 := box hb1
      have F1 := box (hF.out.below hb1)
      clear hb1
      go_wp2_with fail
      refine (rAll_any a cap L nmKey _ S hv hM F1).mono ?_; rintro e w2 ⟨v2, rfl, hO2, hb2⟩
      rw [HMB.out] at hO2
      obtain ⟨a2, cap2, rfl, hS2, hc2⟩ := hO2.ss
      rw [List.length_map] at hc2 ⊢
      have S2 := box hS2
      have B2 := box (B1.out.trans (hb2.mono B1.out.size))
      have hs2 := B2.out.size
      clear hO2 hS2 hb2
      go_wp2
      go_loopw [7, 8] (fun v i wr => RawRel M T w2 v i wr) (fun _ i _ => M.length - (intOf i).toNat)
      case atStart => exact ⟨0, [], rfl, Nat.zero_le _, rfl, by rw [List.drop_zero]; exact HT.out.symm, box smallK_nil, OwnK.nil _ _, Below.refl _ _⟩
      case round =>
        obtain ⟨w3, rfl⟩ : ∃ w3, w3 = wr := ⟨_, rfl⟩
        obtain ⟨j, R, rfl, hj, haj, hTj, SR, hO, hbel⟩ := hrel
        have O0 := box hO
        have BL := box hbel
        have HTj := box hTj
        have HAJ := box haj
        have hRl : R.length ≤ 64 := by omega
        have hBw := hbel.size
        obtain ⟨av, cv, rfl, hks, _⟩ := hO.kss
        have KS := box hks
        clear hO hbel hTj hks haj
        by_cases hlt : j < M.length
        · have hji : (j : Int) < (M.length : Int) := by omega
          have hmem := List.getElem_mem hlt
          obtain ⟨q', off', e, c1⟩ := (S2.out.below BL.out) j (by rw [List.length_map]; exact hlt)
          rw [List.getElem_map] at c1
          cases e
          have hdr : M.drop j = M[j] :: M.drop (j + 1) := List.drop_eq_getElem_cons hlt
          have hmz := HMz.out M[j] hmem
          obtain ⟨x, hx1⟩ : ∃ x, bs M[j] = x := ⟨_, rfl⟩
          have hxd : x.data.toList = M[j] := by rw [← hx1]; rfl
          rw [hx1] at c1
          have hlx : x.data.toList.length = x.size := by simp
          have hxz : x.size ≤ 65000 := by rw [← hlx, hxd]; exact hmz
          rcases hvv : valuesL x.data.toList with _ | V
          · have HB : Box (r0 = (1, [])) := box (HBad.out (by rw [HT.out, HTj.out, hdr]; exact rawsA_none (by rw [← hxd]; exact hvv)))
            have HVV := box hvv
            clear hx1 hdr hmem hmz hxd hlx hvv
            go_wp2_with fail
            refine (rValues_none hxz HVV).mono ?_; rintro e w4 ⟨rfl, hb4⟩
            have B4 := box (BL.out.trans (hb4.mono hBw))
            clear hb4
            go_wp2
            go_ret2
            exact keyW_no HB (B2.out.trans (B4.out.mono hs2))
          · have HN : Box (T = rawsA (M.drop (j + 1)) (R ++ [V.map bs])) := box (by rw [HTj.out, hdr]; exact rawsA_some (by rw [← hxd]; exact hvv))
            have hsm := raw_small hvv (by rw [hlx]; exact hxz)
            have SR2 : Box (smallK (R ++ [V.map bs])) := box (smallK_more SR.out hsm.1 hsm.2)
            have HL2 : Box ((R ++ [V.map bs]).length = j + 1) := box (by rw [List.length_append, HAJ.out]; rfl)
            have HVV := box hvv
            clear hx1 hdr hmem hmz hxd hlx hvv hsm
            go_wp2_with fail
            refine (rValues_some hxz HVV).mono ?_; rintro e w4 ⟨v4, rfl, hO4, hb4⟩
            have O4 := box (O0.out.next hb4)
            have V4 := box (show OwnS w4 w2.heap.size v4 (V.map bs) from Go.Joins.ownsRow_le hO4 hBw)
            have B4 := box (BL.out.trans (hb4.mono hBw))
            have hBw4 := B4.out.size
            obtain ⟨a4, c4, rfl, _, _⟩ := hO4.ss
            rw [List.length_map] at V4 ⊢
            clear hO4 hb4 c1
            go_wp2_with (at_builtin; refine wpList_append_key _ rfl (.tmp 43) (.tmp 45) rfl w2.heap.size _ R rfl ?a1 _ _ rfl (.slice a4 V.length c4) (V.map bs) ?b1 ?u1 ?c1 ?d1 ?_)
            case a1 => exact O4.out.next (below_new _ _)
            case b1 => go_simp
            case u1 => exact own_below V4.out (below_new _ _)
            case c1 => omega
            case d1 => simp; omega
            intro v6 w6 hO6 hb6 _ _
            have O6 := box hO6
            have B6 := box ((B4.out.alloc hBw4 _).trans hb6)
            clear hO6 hb6
            go_wp2
            go_roundw
            case rel => exact ⟨j + 1, R ++ [V.map bs], by go_num, by omega, HL2.out, HN.out, SR2, O6.out, B6.out⟩
            case measure => simp [intOf]; omega
        · have hji : ¬ (j : Int) < (M.length : Int) := by omega
          have HTA : Box (rawsA M [] = some R) := box (by rw [HT.out, HTj.out, List.drop_of_length_le (by omega)]; rfl)
          obtain ⟨T2, hT2⟩ : ∃ T2, keysA X R [] = T2 := ⟨_, rfl⟩
          have HT2 := box hT2
          have HLim2 : Box (T2 = none → r0 = (11, [])) := box (fun h => HLim.out R HTA.out (by rw [hT2]; exact h))
          have HOk2 : Box (∀ K, T2 = some K → r0 = (0, K)) := box (fun K h => HOk.out R K HTA.out (by rw [hT2]; exact h))
          have BW3 := box (B2.out.trans (BL.out.mono hs2))
          have hs3 := BW3.out.size
          clear hT2 HBad HLim HOk HMz HTj HT O0 BL
          go_wp2
          go_loopw [11, 12] (fun v i wr => OkRel X R T2 w3 v i wr) (fun _ i _ => R.length - (intOf i).toNat)
          case atStart => exact ⟨0, [], rfl, Nat.zero_le _, Nat.le_refl _, by rw [List.drop_zero]; exact HT2.out.symm, box smallK_nil, OwnK.nil _ _, Below.refl _ _⟩
          case round =>
            obtain ⟨w4, rfl⟩ : ∃ w4, w4 = wr := ⟨_, rfl⟩
            obtain ⟨j, out, rfl, hj, hol, hTj, SO, hO, hbel⟩ := hrel
            have O0 := box hO
            have BL := box hbel
            have HTj := box hTj
            have ho64 : out.length ≤ 64 := by omega
            have hBw := hbel.size
            obtain ⟨ao, co, rfl, hks, _⟩ := hO.kss
            have KO := box hks
            have BW4 := box (BW3.out.trans (hbel.mono hs3))
            have hs4 := BW4.out.size
            clear hO hbel hTj hks
            by_cases hlt : j < R.length
            · have hji : (j : Int) < (R.length : Int) := by omega
              have hj0 : (0 : Int) ≤ (j : Int) := by omega
              obtain ⟨gr, offr, vr, rfl, cR, br, cr, rfl, hsr, _⟩ := (KS.out.below BL.out) j hlt
              obtain ⟨z1, z2⟩ := SR.out _ (List.getElem_mem hlt)
              have hdr : R.drop j = R[j] :: R.drop (j + 1) := List.drop_eq_getElem_cons hlt
              obtain ⟨r, hr⟩ : ∃ r, R[j] = r := ⟨_, rfl⟩
              rw [hr] at cR hsr z1 z2 hdr
              have HNone : Box (keyA X r [] = none → r0 = (11, [])) := box (fun h => HLim2.out (by rw [HTj.out, hdr]; exact keysA_none h))
              have HOld : Box (∀ k, keyA X r [] = some k → inKy out k = true → T2 = keysA X (R.drop (j + 1)) out) := box (fun k h1 h2 => by rw [HTj.out, hdr]; exact keysA_old h1 h2)
              have HNew : Box (∀ k, keyA X r [] = some k → inKy out k = false → T2 = keysA X (R.drop (j + 1)) (out ++ [k])) := box (fun k h1 h2 => by rw [HTj.out, hdr]; exact keysA_new h1 h2)
              have SSr := box hsr
              have Z2 := box z2
              have CR := box cR
              clear hr hdr hsr z2
              by_cases hrl : r.length = X.length
              · have hrn : ((r.length : Int) != (X.length : Int)) = false := by simp [hrl]
                have HRL := box hrl
                obtain ⟨T3, hT3⟩ : ∃ T3, keyA X r [] = T3 := ⟨_, rfl⟩
                have HT3 := box hT3
                clear hT3 hrl
                go_wp2
                go_loopw [13, 14] (fun v i wr => KkRel X r T3 w4 v i wr) (fun _ i _ => X.length - (intOf i).toNat)
                case atStart => exact ⟨0, [], rfl, Nat.zero_le _, rfl, by rw [List.drop_zero, List.drop_zero]; exact HT3.out.symm, box (fun v hv => by cases hv), OwnS.nil _ _, Below.refl _ _⟩
                case round =>
                  obtain ⟨w5, rfl⟩ : ∃ w5, w5 = wr := ⟨_, rfl⟩
                  obtain ⟨m, key, rfl, hm, hkl, hTm, SK, hO, hbel⟩ := hrel
                  have K0 := box hO
                  have BK := box hbel
                  have HTm := box hTm
                  have HKL := box hkl
                  have hk64 : key.length ≤ 64 := by omega
                  have hBk := hbel.size
                  obtain ⟨ak, ck, rfl, hss, _⟩ := hO.ss
                  have SSk := box hss
                  have BW5 := box (BW4.out.trans (hbel.mono hs4))
                  have hs5 := BW5.out.size
                  clear hO hbel hTm hkl hss cR
                  by_cases hmt : m < X.length
                  · have hmi : (m : Int) < (X.length : Int) := by omega
                    have hm0 : (0 : Int) ≤ (m : Int) := by omega
                    have hmr : m < r.length := by rw [HRL.out]; exact hmt
                    have hmr2 : (m : Int) < (r.length : Int) := by omega
                    obtain ⟨g, off, vv, rfl, cN, cV, bv, cv2, rfl, hsv, _⟩ := (hX.out.below BW5.out) m hmt
                    obtain ⟨g2, off2, rfl, d2⟩ := (SSr.out.below BK.out) m hmr
                    obtain ⟨y1, y2, y3⟩ := zx.out m hmt
                    have hu := HUni.out m hmt
                    have hdX : X.drop m = X[m] :: X.drop (m + 1) := List.drop_eq_getElem_cons hmt
                    have hdr : r.drop m = r[m] :: r.drop (m + 1) := List.drop_eq_getElem_cons hmr
                    have hxz := Z2.out _ (List.getElem_mem hmr)
                    obtain ⟨⟨n, V⟩, hnV⟩ : ∃ x, X[m] = x := ⟨_, rfl⟩
                    obtain ⟨x, hxr⟩ : ∃ x, r[m] = x := ⟨_, rfl⟩
                    rw [hnV] at cN cV hsv y1 y2 hu hdX
                    rw [hxr] at d2 hdr hxz
                    simp only at cN cV hsv y1 y2
                    have Y3 : Box (∀ v ∈ V, v.size ≤ 65000) := box (fun v hv => by
                      obtain ⟨i, hi, rfl⟩ := List.mem_iff_getElem.1 hv
                      have := y3 i (by rw [hnV]; exact hi)
                      simpa [hnV] using this)
                    have HNone3 : Box (hitK (n, V) x V.length = none → r0 = (11, [])) := box (fun h => HNone.out (by rw [HT3.out, HTm.out, hdX, hdr]; exact keyA_none (one_none h)))
                    have HSome3 : Box (∀ z, hitK (n, V) x V.length = some z → T3 = keyA (X.drop (m + 1)) (r.drop (m + 1)) (key ++ [atS V z])) := box (fun z h => by rw [HTm.out, hdX, hdr]; exact keyA_some (one_some h))
                    have HU := box hu
                    have SV := box hsv
                    have CN := box cN
                    have CV := box cV
                    have D2 := box d2
                    have CR5 := box ((BK.out.cell (cell_lt CR.out)).trans CR.out)
                    clear hdX hdr hnV hxr hu hsv y3 cN cV d2
                    go_wp2
                    go_loopw [15, 16] (fun v i wr => HkRel n V x w5 v i wr) (fun _ i _ => V.length - (intOf i).toNat)
                    case atStart => exact ⟨0, rfl, Nat.zero_le _, rfl, box (Below.refl _ _)⟩
                    case round =>
                      obtain ⟨w6, rfl⟩ : ∃ w6, w6 = wr := ⟨_, rfl⟩
                      obtain ⟨l, rfl, hl2, rfl, B6⟩ := hrel
                      have hs6 := B6.out.size
                      have cN := (B6.out.cell (cell_lt CN.out)).trans CN.out
                      have cV := (B6.out.cell (cell_lt CV.out)).trans CV.out
                      have d2 := (B6.out.cell (cell_lt D2.out)).trans D2.out
                      have cR := (B6.out.cell (cell_lt CR5.out)).trans CR5.out
                      by_cases hlv : l < V.length
                      · have hli : (l : Int) < (V.length : Int) := by omega
                        have hl0 : (0 : Int) ≤ (l : Int) := by omega
                        obtain ⟨g3, off3, rfl, d3⟩ := (SV.out.below B6.out) l hlv
                        have hyz := Y3.out _ (List.getElem_mem hlv)
                        have hat : atS V l = V[l] := atS_is hlv
                        obtain ⟨y, hy⟩ : ∃ y, V[l] = y := ⟨_, rfl⟩
                        rw [hy] at d3 hyz hat
                        obtain ⟨q, hq⟩ : ∃ q, sameV n x y = q := ⟨_, rfl⟩
                        have HQ := box hq
                        cases q with
                        | false =>
                          have HX : Box (hitK (n, V) x (l + 1) = hitK (n, V) x l) := box (hit_old (x := (n, V)) (by rw [hat]; exact hq))
                          clear hq hat hy
                          go_wp2
                          go_region_held3 (fun w' => w'.cell? ⟨g, off + m * 2, none⟩ = some (.string n) ∧ w'.cell? ⟨g, off + m * 2 + 1, none⟩ = some (.slice (some ⟨g3, off3, none⟩) V.length cv2) ∧ w'.cell? ⟨gr, offr + j, none⟩ = some (.slice (some ⟨g2, off2, none⟩) r.length cr) ∧ w'.cell? ⟨g2, off2 + m, none⟩ = some (.string x) ∧ w'.cell? ⟨g3, off3 + l, none⟩ = some (.string y)) (first | exact ⟨(hb5.cell (cell_lt cN)).trans cN, (hb5.cell (cell_lt cV)).trans cV, (hb5.cell (cell_lt cR)).trans cR, (hb5.cell (cell_lt d2)).trans d2, (hb5.cell (cell_lt d3)).trans d3⟩ | exact ⟨cN, cV, cR, d2, d3⟩) (first | (go_at_call 26; refine (rSame15_is y1 hxz hyz HQ).mono ?_; rintro e w7 ⟨rfl, hb5⟩))
                          all_goals
                            have B7 := box (B6.out.trans (((below_drewN _ _).trans hb5).mono B6.out.size))
                            clear hb5
                            go_wp2
                            go_roundw
                            case rel => exact ⟨l + 1, by go_num, by omega, by rw [HX.out], B7⟩
                            case measure => simp [intOf]; omega
                        | true =>
                          have HX : Box (hitK (n, V) x (l + 1) = some l) := box (hit_new (x := (n, V)) HU.out hlv (by rw [hat]; exact hq))
                          clear hq hat hy
                          go_wp2
                          go_region_held3 (fun w' => w'.cell? ⟨g, off + m * 2, none⟩ = some (.string n) ∧ w'.cell? ⟨g, off + m * 2 + 1, none⟩ = some (.slice (some ⟨g3, off3, none⟩) V.length cv2) ∧ w'.cell? ⟨gr, offr + j, none⟩ = some (.slice (some ⟨g2, off2, none⟩) r.length cr) ∧ w'.cell? ⟨g2, off2 + m, none⟩ = some (.string x) ∧ w'.cell? ⟨g3, off3 + l, none⟩ = some (.string y)) (first | exact ⟨(hb5.cell (cell_lt cN)).trans cN, (hb5.cell (cell_lt cV)).trans cV, (hb5.cell (cell_lt cR)).trans cR, (hb5.cell (cell_lt d2)).trans d2, (hb5.cell (cell_lt d3)).trans d3⟩ | exact ⟨cN, cV, cR, d2, d3⟩) (first | (go_at_call 26; refine (rSame15_is y1 hxz hyz HQ).mono ?_; rintro e w7 ⟨rfl, hb5⟩))
                          all_goals
                            have B7 := box (B6.out.trans (((below_drewN _ _).trans hb5).mono B6.out.size))
                            clear hb5
                            go_wp2
                            go_roundw
                            case rel => exact ⟨l + 1, by go_num, by omega, by rw [HX.out]; rfl, B7⟩
                            case measure => simp [intOf]; omega
                      · have hli : ¬ (l : Int) < (V.length : Int) := by omega
                        obtain rfl : l = V.length := by omega
                        have BW6 := box (BW5.out.trans (B6.out.mono hs5))
                        cases hz : hitK (n, V) x V.length with
                        | none =>
                          have HB : Box (r0 = (11, [])) := box (HNone3.out hz)
                          clear hz
                          go_wp2
                          go_ret2
                          exact keyW_no HB BW6.out
                        | some z =>
                          have HN := box (HSome3.out z hz)
                          obtain ⟨hzl, _⟩ := hitK_lt hz
                          have hzi : (z : Int) < (V.length : Int) := by omega
                          have hz0 : (0 : Int) ≤ (z : Int) := by omega
                          have hzn : ¬ (z : Int) < 0 := by omega
                          obtain ⟨g3, off3, rfl, d3⟩ := (SV.out.below B6.out) z hzl
                          have hyz := Y3.out _ (List.getElem_mem hzl)
                          have hat : atS V z = V[z] := atS_is hzl
                          obtain ⟨y, hy⟩ : ∃ y, V[z] = y := ⟨_, rfl⟩
                          rw [hy] at d3 hyz hat
                          rw [hat] at HN
                          have SK2 : Box (∀ v ∈ key ++ [y], v.size ≤ 65000) := box (fun v hv => by
                            rcases List.mem_append.1 hv with q | q
                            · exact SK.out v q
                            · rw [List.mem_singleton.1 q]; exact hyz)
                          have HL2 : Box ((key ++ [y]).length = m + 1) := box (by rw [List.length_append, HKL.out]; rfl)
                          have K6 := box (own_below K0.out B6.out)
                          have BK6 := box (BK.out.trans (B6.out.mono hBk))
                          have hBk6 := BK6.out.size
                          have hlen : Box (key.length ≤ 65536) := box (by omega)
                          clear hz hat hy
                          simp only [hitI]
                          go_wp2_with (at_builtin; refine wpList_append_str _ rfl (.tmp 101) (.tmp 110) rfl w4.heap.size _ key rfl ?a2 _ _ rfl y ?b2 ?c2 ?d2 ?_)
                          case a2 => exact own_below K6.out (below_new _ _)
                          case c2 => exact hlen.out
                          case d2 => omega
                          intro v7 w7 hO7 hb7
                          have O7 := box hO7
                          have B7 := box ((BK6.out.alloc hBk6 _).trans hb7)
                          clear hO7 hb7
                          go_wp2
                          go_roundw
                          case rel => exact ⟨m + 1, key ++ [y], by go_num, by omega, HL2.out, HN.out, SK2, O7.out, B7.out⟩
                          case measure => simp [intOf]; omega
                  · have hmi : ¬ (m : Int) < (X.length : Int) := by omega
                    obtain rfl : m = X.length := by omega
                    have HKey : Box (keyA X r [] = some key) := box (by
                      rw [HT3.out, HTm.out, List.drop_of_length_le (Nat.le_refl _), List.drop_of_length_le (by rw [HRL.out]; exact Nat.le_refl _)]; rfl)
                    have hk6 : key.length ≤ 65536 := by omega
                    have O5 := box (O0.out.next BK.out)
                    have KO5 := box (KO.out.below BK.out)
                    clear HT3 HTm
                    go_wp2
                    go_loopw [17, 18] (fun v i wr => NkRel out key w5 v i wr) (fun _ i _ => out.length - (intOf i).toNat)
                    case atStart => exact ⟨0, rfl, Nat.zero_le _, rfl, box (Below.refl _ _)⟩
                    case round =>
                      obtain ⟨w6, rfl⟩ : ∃ w6, w6 = wr := ⟨_, rfl⟩
                      obtain ⟨l, rfl, hl2, rfl, B6⟩ := hrel
                      have hs6 := B6.out.size
                      obtain ⟨q, hq⟩ : ∃ q, inKy (out.take l) key = q := ⟨_, rfl⟩
                      by_cases hlo : l < out.length
                      · have hli : (l : Int) < (out.length : Int) := by omega
                        have hl0 : (0 : Int) ≤ (l : Int) := by omega
                        cases q with
                        | true =>
                          have HX : Box (inKy (out.take (l + 1)) key = true) := box (by rw [inKy_more hlo, hq]; rfl)
                          rw [hq]
                          clear hq
                          go_wp2
                          go_roundw
                          case rel => exact ⟨l + 1, by go_num, by omega, by rw [HX.out], B6⟩
                          case measure => simp [intOf]; omega
                        | false =>
                          obtain ⟨g3, off3, v3, rfl, d3, b3, c3, rfl, hs3', _⟩ := (KO5.out.below B6.out) l hlo
                          have hy6 := (SO.out _ (List.getElem_mem hlo)).1
                          have hmore := inKy_more hlo key
                          obtain ⟨y, hy⟩ : ∃ y, out[l] = y := ⟨_, rfl⟩
                          rw [hy] at d3 hs3' hy6 hmore
                          obtain ⟨u, hu⟩ : ∃ u, decide (y = key) = u := ⟨_, rfl⟩
                          have HX : Box (inKy (out.take (l + 1)) key = u) := box (by rw [hmore, hq, hu]; rfl)
                          have HU := box hu
                          have SY := box hs3'
                          have SK6 := box ((SSk.out.below B6.out))
                          have hy65 : y.length ≤ 65536 := by omega
                          rw [hq]
                          clear hq hmore hy hu hs3' hy6
                          go_wp2_with fail
                          refine (sameS15_is hy65 hk6 SY.out SK6.out HU).mono ?_; rintro e w7 ⟨rfl, hb7⟩
                          have B7 := box (B6.out.trans (hb7.mono hs6))
                          clear hb7
                          go_wp2
                          go_roundw
                          case rel => exact ⟨l + 1, by go_num, by omega, by rw [HX.out], B7⟩
                          case measure => simp [intOf]; omega
                      · have hli : ¬ (l : Int) < (out.length : Int) := by omega
                        obtain rfl : l = out.length := by omega
                        rw [List.take_length] at hq
                        rw [List.take_length, hq]
                        have O6 := box (O5.out.next B6.out)
                        have BR6 := box (BL.out.trans ((BK.out.trans (B6.out.mono hBk)).mono hBw))
                        have hBr6 := BR6.out.size
                        cases q with
                        | true =>
                          have HN := box (HOld.out key HKey.out hq)
                          clear hq
                          go_wp2
                          go_roundw
                          case rel => exact ⟨j + 1, out, by go_num, by omega, by omega, HN.out, SO, O6.out, BR6.out⟩
                          case measure => simp [intOf]; omega
                        | false =>
                          have HN := box (HNew.out key HKey.out hq)
                          have SO2 : Box (smallK (out ++ [key])) := box (smallK_more SO.out (by omega) SK.out)
                          have HL2 : Box ((out ++ [key]).length ≤ j + 1) := box (by rw [List.length_append]; simp only [List.length_cons, List.length_nil]; omega)
                          have K6 := box (show OwnS w6 w3.heap.size _ key from Go.Joins.ownsRow_le (own_below K0.out B6.out) hBw)
                          clear hq
                          go_wp2_with (at_builtin; refine wpList_append_key _ rfl (.tmp 129) (.tmp 131) rfl w3.heap.size _ out rfl ?a3 _ _ rfl (.slice ak key.length ck) key ?b3 ?u3 ?c3 ?d3 ?_)
                          case a3 => exact O6.out.next (below_new _ _)
                          case u3 => exact own_below K6.out (below_new _ _)
                          case c3 => omega
                          case d3 => omega
                          intro v7 w7 hO7 hb7 _ _
                          have O7 := box hO7
                          have B7 := box ((BR6.out.alloc hBr6 _).trans hb7)
                          clear hO7 hb7
                          go_wp2
                          go_roundw
                          case rel => exact ⟨j + 1, out ++ [key], by go_num, by omega, HL2.out, HN.out, SO2, O7.out, B7.out⟩
                          case measure => simp [intOf]; omega
              · have hrn : ((r.length : Int) != (X.length : Int)) = true := by simp; omega
                have HB : Box (r0 = (11, [])) := box (HNone.out (keyA_len X r [] hrl))
                clear hrl
                go_wp2
                go_ret2
                exact keyW_no HB BW4.out
            · have hji : ¬ (j : Int) < (R.length : Int) := by omega
              have HF : Box (r0 = (0, out)) := box (HOk2.out out (by rw [HTj.out, List.drop_of_length_le (by omega)]; rfl))
              go_wp2
              go_ret2
              rw [HF.out]
              exact ⟨_, rfl, O0.out.le hs3, BW4.out⟩
end
end Go.Proofs.YtcnohcbhnldglaaGreat.Asc
