/- Merged texts: KeyLaws3. -/
import Derived.Test.YtcnohcbhnldglaaGreatM20
set_option linter.unusedVariables false
set_option linter.unusedSimpArgs false
set_option maxRecDepth 100000
namespace Go.Proofs.YtcnohcbhnldglaaGreat.Asc
section
open Go.RowKit Go.ChangeShapes Go.WideShapes Go.Deep
def Iz (w : World) (a : Option Addr) (L : List Int) : Prop := ∀ i (h : i < L.length), ∃ g off, a = some ⟨g, off, none⟩ ∧ w.cell? ⟨g, off + i, none⟩ = some (.int .i64 L[i])
theorem Iz.below {w w' : World} {a : Option Addr} {L : List Int} (h : Iz w a L) (hb : Below w.heap.size w w') : Iz w' a L := fun i hi => by
  obtain ⟨g, off, e, c0⟩ := h i hi
  exact ⟨g, off, e, (hb.cell (cell_lt c0)).trans c0⟩
def IzV (w : World) (v : Value) (L : List Int) : Prop := ∃ b c, v = .slice b L.length c ∧ Iz w b L
def Izs (w : World) (a : Option Addr) (P : List (List Int)) : Prop :=
  ∀ i (h : i < P.length), ∃ g off v, a = some ⟨g, off, none⟩ ∧ w.cell? ⟨g, off + i, none⟩ = some v ∧ IzV w v P[i]
theorem Izs.below {w w' : World} {a : Option Addr} {P : List (List Int)} (h : Izs w a P) (hb : Below w.heap.size w w') : Izs w' a P := fun i hi => by
  obtain ⟨g, off, v, e, c0, b, c, e2, hs⟩ := h i hi
  exact ⟨g, off, v, e, (hb.cell (cell_lt c0)).trans c0, b, c, e2, hs.below hb⟩
def izOf : Value → Int
  | .int _ z => z
  | _ => 0
theorem open_iz {H : Type} {enc : TypeId × Value → H} {W : World} {base : Nat} {sp : Nat → Bool} {held : Bool} {n : Nat} {v : Value} {x : DataW H × List MemPlace}
    (hf : DataW.trod enc Tryz.prog W base sp held n 40 [v] = some x) : ∃ L, IzV W v L ∧ L.length ≤ maxLen := by
  rcases open_slice1 Tryz.underlying40 (by kernel_rfl) hf with ⟨hcs, hx⟩ | ⟨a, len', cap', m, n, V, D, Pl, hcs, _, hl, hm, hmm, hx, hi⟩
  · simp at hcs
    subst hcs
    exact ⟨[], ⟨none, 0, rfl, fun i hi => absurd hi (by simp)⟩, Nat.zero_le _⟩
  · simp at hcs
    subst hcs
    have hlm : len' ≤ m := by rw [hmm]; split <;> omega
    refine ⟨(List.range len').map fun i => izOf (V i), ⟨some a, cap', by simp, fun i hi2 => ?_⟩, by simp; omega⟩
    have hil : i < len' := by simpa using hi2
    obtain ⟨g, off, spot⟩ := a
    obtain ⟨z0, _⟩ := hi 0 (by omega)
    have hspot : spot = none := by simpa [Addr.add] using World.cell?_spot z0
    subst hspot
    obtain ⟨k0, t0⟩ := hi i (by omega)
    obtain ⟨s0, e0, _, _⟩ := DataW.trod_int Tryz.underlying3 t0
    rw [add_plain] at k0
    simp at e0
    refine ⟨g, off, rfl, ?_⟩
    rw [k0, e0]; simp [izOf, e0]
theorem open_intss {H : Type} {enc : TypeId × Value → H} {W : World} {base : Nat} {sp : Nat → Bool} {held : Bool} {r : Reach} {b0 : Nat} {v : Value} {d : DataW H} {p : List MemPlace}
    (hval : Value.okWide Tryz.prog W r b0 39 v) (h : DataW.Trod enc Tryz.prog W base sp held 39 v d p) :
    ∃ (a : Option Addr) (cap : Nat) (P : List (List Int)), v = .slice a P.length cap ∧ P.length ≤ maxLen ∧ (Izs W a P ∧ ∀ i (hi : i < P.length), P[i].length ≤ maxLen) ∧ P.length ≤ cap := by
  obtain ⟨a0, len, cap, rfl⟩ := okWide_slice Tryz.underlying39 hval
  obtain ⟨fuel, hf⟩ := h
  rcases open_slice1 Tryz.underlying39 (by kernel_rfl) hf with ⟨hcs, hx⟩ | ⟨a, len', cap', m, n, V, D, Pl, hcs, _, hl, hm, hmm, hx, hi⟩
  · simp [Value.cells] at hcs
    obtain ⟨rfl, rfl, rfl⟩ := hcs
    exact ⟨none, 0, [], rfl, Nat.zero_le _, ⟨fun i hi => absurd hi (by simp), fun i hi => absurd hi (by simp)⟩, Nat.le_refl _⟩
  · simp [Value.cells] at hcs
    obtain ⟨rfl, rfl, rfl⟩ := hcs
    have hlm : len ≤ m := by rw [hmm]; split <;> omega
    obtain ⟨g, off, spot⟩ := a
    obtain ⟨L, hL, hP⟩ := choose_list (P := fun i (x : List Int) => ∃ v, W.cell? ((⟨g, off, spot⟩ : Addr).add i) = some v ∧ IzV W v x ∧ x.length ≤ maxLen) len (fun i hil => by
      obtain ⟨k0, t0⟩ := hi i (by omega)
      obtain ⟨V', hV, hVm⟩ := open_iz t0
      exact ⟨V', V i, k0, hV, hVm⟩)
    refine ⟨some ⟨g, off, spot⟩, cap, L, by rw [hL], by rw [hL]; omega, ⟨fun i hi2 => ?_, fun i hi2 => by obtain ⟨v, _, _, p3⟩ := hP i hi2; exact p3⟩, by rw [hL]; omega⟩
    obtain ⟨v, p1, p2, _⟩ := hP i hi2
    obtain ⟨z0, _⟩ := hi 0 (by omega)
    have hspot : spot = none := by simpa [Addr.add] using World.cell?_spot z0
    subst hspot
    rw [add_plain] at p1
    exact ⟨g, off, v, rfl, p1, p2⟩
theorem ApartK.symm {v z : Value} (h : ApartK v z) : ApartK z v := fun k hk e => h k e hk
def nmK16 : ByteArray := ⟨#[118, 97, 114, 105, 97, 110, 116, 45, 107, 101, 121]⟩
theorem nmK16_is (x : ByteArray) : nmd nmKey (nmK16, x) = true := by
  show foldL nmK16.data.toList nmKey.data.toList = true
  decide +kernel
def BkRel (G : List KY) (W : World) (v u i : Value) (wr : World) : Prop :=
  ∃ j : Nat, i = .int .i64 j ∧ j ≤ G.length ∧ OwnK wr W.heap.size v (G.take j) ∧ OwnK wr W.heap.size u (distK (G.take j) []) ∧ ApartK v u ∧ Below W.heap.size W wr
def BmRel (k : KY) (W : World) (v i : Value) (wr : World) : Prop :=
  ∃ m : Nat, i = .int .i64 m ∧ m ≤ k.length ∧ OwnS wr W.heap.size v (k.take m) ∧ Below W.heap.size W wr
theorem kSame16_is {a b : Option Addr} {ca cb : Nat} {K L : List ByteArray} {q : Bool} {w : World} (hk : K.length ≤ 65536) (hl : L.length ≤ 65536) (hK : Ss w a K) (hL : Ss w b L) (h : Box (decide (K = L) = q)) :
    Calls Tryz.prog 19 #[.slice a K.length ca, .slice b L.length cb] w fun e w' => e = .returned (.bool q) ∧ Below w.heap.size w w' :=
  (kSameS_any a b ca cb K L w hk hl (box hK) (box hL)).mono fun e w' ⟨h1, h2⟩ => ⟨by rw [h1, h.out], h2⟩
set_option maxHeartbeats 8000000 in
theorem back16_in (p : Option Addr) (cp : Nat) (X : List AX) (a : Option Addr) (cap : Nat) (P : List (List Int)) (w : World)
    (HX0 : Box (X.length ≤ maxLen)) (HX : Box (Axs w p X ∧ ∀ i (hi : i < X.length), X[i].2.length ≤ maxLen)) (HP : Box (Izs w a P ∧ ∀ i (hi : i < P.length), P[i].length ≤ maxLen)) (h1 : 1 ≤ P.length) (h20 : P.length ≤ 20) (HKA : Box (keepA X = true)) (HV : Box (validX X = true)) :
    Calls Tryz.prog 5 #[.slice p X.length cp, .slice a P.length cap] w fun e w' => e = .returned (.bool true) ∧ Below w.heap.size w w' := by
  obtain ⟨x1, x4⟩ := validX_len HV.out
  have ZX : Box (smallA X) := box (fitX.small (keep_fit HKA.out).2)
  have x6 : X.length ≤ 65536 := by omega
  obtain ⟨G, hG⟩ : ∃ G, P.map (pickK X) = G := ⟨_, rfl⟩
  have hgl : G.length = P.length := by rw [← hG, List.length_map]
  have HGL := box hgl
  have HGX : Box (∀ k ∈ G, OfX X k) := box (fun k hk => by
    rw [← hG] at hk
    obtain ⟨q, _, rfl⟩ := List.mem_map.1 hk
    exact pickK_of HV.out q)
  have HGA : Box (∀ i (h : i < P.length) (h2 : i < G.length), G[i] = pickK X P[i]) := box (fun i h h2 => by simp [← hG])
  obtain ⟨x, hx⟩ : ∃ x, keysT G = x := ⟨_, rfl⟩
  obtain ⟨b1, b2, b3⟩ := keys_back (n := nmK16) HV.out HKA.out HGX.out (by omega) (fun e => by rw [e] at hgl; simp at hgl; omega) (nmK16_is x) hx
  have HTX := box hx
  have HR := box b1
  have ZG := box b3
  have S := box (one_sm15 (n := nmK16) (v := x) (by decide) (by omega))
  have hg := box (get_small15 (nm := nmKey) (n := nmK16) (v := x) b2)
  have HDS : Box (smallK (distK G [])) := box (keys_small b1 hg.out (by omega) ZX.out)
  have HDL : Box ((distK G []).length ≤ 65536) := box (by have := distK_len G []; simp only [List.length_nil] at this; omega)
  have hp1 : ¬ (P.length : Int) < 1 := by omega
  have hp2 : ¬ (20 : Int) < (P.length : Int) := by omega
  clear hG hgl hx b1 b2 b3
  go_enter Tryz.func5, Tryz.ntmps5
  go_wp2_with fail
  refine (keepAx_is HX0.out HX.out HKA).mono ?_; rintro e w1 ⟨rfl, rfl⟩
  go_wp2_with fail
  refine (rValidL_is x6 ZX HX.out.1 HV).mono ?_; rintro e w1 ⟨rfl, hb1⟩
  have B1 := box hb1
  have hs1 := hb1.size
  clear hb1
  go_wp2
  go_loopw [5, 6, 7] (fun v u i wr => BkRel G w1 v u i wr) (fun _ _ i _ => P.length - (intOf i).toNat)
  case atStart => exact ⟨0, rfl, Nat.zero_le _, OwnK.nil _ _, OwnK.nil _ _, fun k hk => by simp [Value.ownBlock] at hk, Below.refl _ _⟩
  case round =>
    obtain ⟨w2, rfl⟩ : ∃ w2, w2 = wr := ⟨_, rfl⟩
    obtain ⟨j, rfl, hj, hO, hD, hAP, hbel⟩ := hrel
    have O2 := box hO
    have D2 := box hD
    have B2 := box hbel
    have AP2 := box hAP
    have hs2 := hbel.size
    have BW2 := box (B1.out.trans (hbel.mono hs1))
    obtain ⟨ao, co, rfl, hks, _⟩ := hO.kss
    obtain ⟨ad, cd, rfl, hkd, _⟩ := hD.kss
    have hjP : j ≤ P.length := by rw [← HGL.out]; exact hj
    have hjl : (G.take j).length = j := by rw [List.length_take, Nat.min_eq_left hj]
    rw [hjl] at O2 AP2 ⊢
    obtain ⟨dn, hdn⟩ : ∃ D, distK (G.take j) [] = D := ⟨_, rfl⟩
    have hdl : dn.length ≤ 20 := by have := distK_len (G.take j) []; rw [hdn, hjl] at this; simp only [List.length_nil] at this; omega
    rw [hdn] at D2 AP2 hkd ⊢
    have HDN := box hdn
    have HJL := box hjl
    have KS := box hks
    have KD := box hkd
    clear hO hD hAP hbel hks hkd hdn hjl
    by_cases hlt : j < P.length
    · have hji : (j : Int) < (P.length : Int) := by omega
      have hj0 : (0 : Int) ≤ (j : Int) := by omega
      have hjG : j < G.length := by rw [HGL.out]; exact hlt
      obtain ⟨gp, op, vp, rfl, cP, bp, dp, rfl, hiz⟩ := (HP.out.1.below BW2.out) j hlt
      have hpm := HP.out.2 j hlt
      have hGj := HGA.out j hlt hjG
      obtain ⟨Z, hZ⟩ : ∃ Z, P[j] = Z := ⟨_, rfl⟩
      obtain ⟨key, hkey⟩ : ∃ key, pickK X Z = key := ⟨_, rfl⟩
      rw [hZ] at cP hiz hpm hGj
      rw [hkey] at hGj
      have HKEY := box hkey
      have hkl : key.length = X.length := by rw [← hkey]; exact pickK_len X Z
      have HKL := box hkl
      have HGJ := box hGj
      have CP := box cP
      have IZ := box hiz
      have hzm : Z.length ≤ 9223372036854775807 := hpm
      clear hZ hkey hGj hiz cP hpm hkl
      go_wp2
      go_loopw [8, 9] (fun v i wr => BmRel key w2 v i wr) (fun _ i _ => X.length - (intOf i).toNat)
      case atStart => exact ⟨0, rfl, Nat.zero_le _, OwnS.nil _ _, Below.refl _ _⟩
      case round =>
        obtain ⟨w3, rfl⟩ : ∃ w3, w3 = wr := ⟨_, rfl⟩
        obtain ⟨m, rfl, hm, hO, hbel⟩ := hrel
        have K3 := box hO
        have B3 := box hbel
        have hs3 := hbel.size
        have BW3 := box (BW2.out.trans (hbel.mono BW2.out.size))
        obtain ⟨ak, ck, rfl, hss, _⟩ := hO.ss
        have hml : (key.take m).length = m := by rw [List.length_take, Nat.min_eq_left hm]
        rw [hml] at K3 ⊢
        have SSk := box hss
        have hmX : m ≤ X.length := by rw [← HKL.out]; exact hm
        clear hO hbel hss hml
        by_cases hmx : m < X.length
        · have hmi : (m : Int) < (X.length : Int) := by omega
          have hm0 : (0 : Int) ≤ (m : Int) := by omega
          obtain ⟨g2, o2, v2, rfl, cN, cV, b2, d2, rfl, hsv, _⟩ := (HX.out.1.below BW3.out) m hmx
          have hv1 := (valid_parts15 (validX_at HV.out m hmx)).2.2.1
          have hv16 := (valid_parts15 (validX_at HV.out m hmx)).2.2.2.1
          have hmore := pickK_more (P := Z) hmx
          rw [HKEY.out] at hmore
          obtain ⟨V, hV⟩ : ∃ V, X[m].2 = V := ⟨_, rfl⟩
          rw [hV] at cV hsv hv1 hv16 hmore
          have HMO := box hmore
          have SV := box hsv
          have cP := (B3.out.cell (cell_lt CP.out)).trans CP.out
          have IZ3 := box (IZ.out.below B3.out)
          clear hmore hsv hV cN
          by_cases hmz : m < Z.length
          · have hmzi : (m : Int) < (Z.length : Int) := by omega
            obtain ⟨g4, o4, rfl, e4⟩ := IZ3.out m hmz
            obtain ⟨z, hz⟩ : ∃ z, Z[m] = z := ⟨_, rfl⟩
            rw [hz] at e4
            have hn0 : (V.length : Int) ≠ 0 := by omega
            obtain ⟨i1, i2, i3, i4⟩ := placeP_int (z := z) (n := V.length) hv1
            obtain ⟨t, ht⟩ : ∃ t, placeP z V.length = t := ⟨_, rfl⟩
            rw [ht] at i1 i2
            have HE : Box ((z.tmod (V.length : Int) + (V.length : Int)) % (V.length : Int) = (t : Int)) := box ((Int.tmod_eq_emod_of_nonneg (show (0 : Int) ≤ z.tmod (V.length : Int) + (V.length : Int) by omega)).symm.trans i1.symm)
            have htl : t < V.length := i2
            have HPK : Box (pickP Z m V.length = t) := box (by
              unfold pickP
              rw [if_pos hmz, List.getD_eq_getElem?_getD, List.getElem?_eq_getElem hmz, hz]
              exact ht)
            clear i1 i2 ht hz
            go_wp2
            go_quiet (fail)
            rw [HE.out]
            have hb := below_drewN w3 nq
            have hti : (t : Int) < (V.length : Int) := by omega
            have ht0 : (0 : Int) ≤ (t : Int) := by omega
            have K4 := box (own_below K3.out hb)
            have B4 := box (B3.out.trans (hb.mono hs3))
            have hs4 := B4.out.size
            have SV4 := box (SV.out.below hb)
            have cV4 := (hb.cell (cell_lt cV)).trans cV
            obtain ⟨g3, o3, rfl, d3⟩ := SV4.out t htl
            have hat : atS V t = V[t] := atS_is htl
            obtain ⟨y, hy⟩ : ∃ y, V[t] = y := ⟨_, rfl⟩
            rw [hy] at d3 hat
            have HN : Box (key.take (m + 1) = key.take m ++ [y]) := box (by rw [HMO.out, HPK.out, hat])
            have hlen : Box ((key.take m).length ≤ 65536) := box (by rw [List.length_take]; omega)
            clear cV cP e4 hat hy hb
            go_wp2_with (at_builtin; refine wpList_append_str _ rfl (.tmp 80) (.tmp 89) rfl w2.heap.size _ (key.take m) rfl ?a1 _ _ rfl y ?b1 ?c1 ?d1 ?_)
            case a1 => exact own_below K4.out (below_new _ _)
            case b1 => exact (World.cell?_alloc_at (w := w3.drewN nq) #[.string y] 9 w3.heap.size 0 rfl).trans rfl
            case c1 => exact hlen.out
            case d1 => first | omega | (simp; omega)
            intro v6 w6 hO6 hb6
            have O6 := box hO6
            have B6 := box ((B4.out.alloc hs4 _).trans hb6)
            clear hO6 hb6
            go_wp2
            go_roundw
            case rel => exact ⟨m + 1, by go_num, by rw [HKL.out]; omega, by rw [HN.out]; exact O6.out, B6.out⟩
            case measure => simp [intOf]; omega
          · have hmzi : ¬ (m : Int) < (Z.length : Int) := by omega
            have HPK : Box (pickP Z m V.length = 0) := box (by unfold pickP; rw [if_neg hmz])
            have hv0 : (0 : Int) < (V.length : Int) := by omega
            have hs4 := hs3
            obtain ⟨g3, o3, rfl, d3⟩ := SV.out 0 hv1
            have hat : atS V 0 = V[0] := atS_is hv1
            obtain ⟨y, hy⟩ : ∃ y, V[0] = y := ⟨_, rfl⟩
            rw [hy] at d3 hat
            rw [Nat.add_zero] at d3
            have HN : Box (key.take (m + 1) = key.take m ++ [y]) := box (by rw [HMO.out, HPK.out, hat])
            have hlen : Box ((key.take m).length ≤ 65536) := box (by rw [List.length_take]; omega)
            have B4 := B3
            clear hat hy
            go_wp2_with (at_builtin; refine wpList_append_str _ rfl (.tmp 80) (.tmp 89) rfl w2.heap.size _ (key.take m) rfl ?a2 _ _ rfl y ?b2 ?c2 ?d2 ?_)
            case a2 => exact own_below K3.out (below_new _ _)
            case c2 => first | exact hlen.out | omega
            case d2 => first | omega | (simp; omega)
            intro v6 w6 hO6 hb6
            have O6 := box hO6
            have B6 := box ((B4.out.alloc hs4 _).trans hb6)
            clear hO6 hb6
            go_wp2
            go_roundw
            case rel => exact ⟨m + 1, by go_num, by rw [HKL.out]; omega, by rw [HN.out]; exact O6.out, B6.out⟩
            case measure => simp [intOf]; omega
        · have hmi : ¬ (m : Int) < (X.length : Int) := by omega
          have hmk : m = key.length := by rw [HKL.out]; omega
          have hkt : key.take m = key := by rw [hmk, List.take_length]
          rw [hkt] at K3 SSk
          have hke : m = X.length := by omega
          have hmk6 : key.length ≤ 65536 := by omega
          have D3 := box (D2.out.next B3.out)
          have O3 := box (O2.out.next B3.out)
          have KD3 := box (KD.out.below B3.out)
          have HMK := box hmk
          clear hkt hke hmk
          go_wp2
          go_loopw [11, 12] (fun v i wr => NkRel dn key w3 v i wr) (fun _ i _ => dn.length - (intOf i).toNat)
          case atStart => exact ⟨0, rfl, Nat.zero_le _, rfl, box (Below.refl _ _)⟩
          case round =>
            obtain ⟨w4, rfl⟩ : ∃ w4, w4 = wr := ⟨_, rfl⟩
            obtain ⟨l, rfl, hl2, rfl, B4⟩ := hrel
            have hs4 := B4.out.size
            obtain ⟨q, hq⟩ : ∃ q, inKy (dn.take l) key = q := ⟨_, rfl⟩
            by_cases hlo : l < dn.length
            · have hli : (l : Int) < (dn.length : Int) := by omega
              have hl0 : (0 : Int) ≤ (l : Int) := by omega
              cases q with
              | true =>
                have HXX : Box (inKy (dn.take (l + 1)) key = true) := box (by rw [inKy_more hlo, hq]; rfl)
                rw [hq]
                clear hq
                go_wp2
                go_roundw
                case rel => exact ⟨l + 1, by go_num, by omega, by rw [HXX.out], B4⟩
                case measure => simp [intOf]; omega
              | false =>
                obtain ⟨g3, o3, v3, rfl, d3, b3, c3, rfl, hsy, _⟩ := (KD3.out.below B4.out) l hlo
                have hmem : dn[l] ∈ distK (G.take j) [] := by rw [HDN.out]; exact List.getElem_mem hlo
                have hyl : (dn[l]).length ≤ 65536 := by
                  rcases distK_mem _ _ _ hmem with q | q
                  · cases q
                  · have := (ZG.out _ (List.mem_of_mem_take q)).1; omega
                have hmore := inKy_more hlo key
                obtain ⟨y, hy⟩ : ∃ y, dn[l] = y := ⟨_, rfl⟩
                rw [hy] at d3 hsy hyl hmore
                obtain ⟨u, hu⟩ : ∃ u, decide (y = key) = u := ⟨_, rfl⟩
                have HXX : Box (inKy (dn.take (l + 1)) key = u) := box (by rw [hmore, hq, hu]; rfl)
                have HU := box hu
                have SY := box hsy
                have SK4 := box (SSk.out.below B4.out)
                have HMK2 := HMK.out
                subst HMK2
                rw [hq]
                clear hq hmore hy hu hsy hmem
                go_wp2_with fail
                refine (kSame16_is hyl hmk6 SY.out SK4.out HU).mono ?_; rintro e w7 ⟨rfl, hb7⟩
                have B7 := box (B4.out.trans (hb7.mono hs4))
                clear hb7
                go_wp2
                go_roundw
                case rel => exact ⟨l + 1, by go_num, by omega, by rw [HXX.out], B7⟩
                case measure => simp [intOf]; omega
            · have hli : ¬ (l : Int) < (dn.length : Int) := by omega
              obtain rfl : l = dn.length := by omega
              rw [List.take_length] at hq
              rw [List.take_length, hq]
              have D4 := box (D3.out.next B4.out)
              have O4 := box (O3.out.next B4.out)
              have BR4 := box (B2.out.trans ((B3.out.trans (B4.out.mono B3.out.size)).mono hs2))
              have hBr4 := BR4.out.size
              have K4 := box (show OwnS w4 w1.heap.size _ key from Go.Joins.ownsRow_le (own_below K3.out B4.out) hs2)
              have HTK : Box (G.take (j + 1) = G.take j ++ [key]) := box (by rw [take_next hjG, HGJ.out])
              have hlen : Box ((G.take j).length ≤ 65536) := box (by rw [List.length_take]; omega)
              cases q with
              | true =>
                have HDK : Box (distK (G.take (j + 1)) [] = dn) := box (by rw [distK_more hjG, HDN.out, HGJ.out, if_pos hq])
                clear hq
                go_wp2_with (at_builtin; refine wpList_append_key _ rfl (.tmp 112) (.tmp 114) rfl w1.heap.size _ (G.take j) rfl ?a3 _ _ rfl (.slice ak m ck) key ?b3 ?u3 ?c3 ?d3 ?_)
                case a3 => exact O4.out.next (below_new _ _)
                case u3 => exact own_below K4.out (below_new _ _)
                case c3 => omega
                case d3 => first | omega | (simp; omega)
                intro v6 w6 hO6 hb6 _ hz6
                obtain ⟨hD6, hA6⟩ := hz6 _ dn (D4.out.next (below_new _ _)) AP2.out
                have O6 := box hO6
                have D6 := box hD6
                have A6 := box hA6
                have B6 := box ((BR4.out.alloc hBr4 _).trans hb6)
                clear hO6 hb6 hz6 hD6 hA6
                go_wp2
                go_roundw
                case rel => exact ⟨j + 1, by go_num, by omega, by rw [HTK.out]; exact O6.out, by rw [HDK.out]; exact D6.out, A6.out, B6.out⟩
                case measure => simp [intOf]; omega
              | false =>
                have HDK : Box (distK (G.take (j + 1)) [] = dn ++ [key]) := box (by rw [distK_more hjG, HDN.out, HGJ.out, if_neg (by rw [hq]; simp)])
                have HDL2 : Box ((dn ++ [key]).length = dn.length + 1) := box (by rw [List.length_append]; rfl)
                have AP3 := box AP2.out.symm
                clear hq
                go_wp2_with (at_builtin; refine wpList_append_key _ rfl (.tmp 108) (.tmp 110) rfl w1.heap.size _ dn rfl ?a4 _ _ rfl (.slice ak m ck) key ?b4 ?u4 ?c4 ?d4 ?_)
                case a4 => exact D4.out.next (below_new _ _)
                case u4 => exact own_below K4.out (below_new _ _)
                case c4 => omega
                case d4 => first | omega | (simp; omega)
                intro v6 w6 hD6 hb6 hu6 hz6
                obtain ⟨hO6, hA6⟩ := hz6 _ (G.take j) (O4.out.next (below_new _ _)) AP3.out
                obtain ⟨a6, c6, rfl, _, _⟩ := hD6.kss
                rw [HDL2.out] at hD6 hA6 ⊢
                have O6 := box hO6
                have D6 := box hD6
                have A6 := box hA6.symm
                have K6 := box hu6
                have B6 := box ((BR4.out.alloc hBr4 _).trans hb6)
                have hB6 := B6.out.size
                clear hO6 hb6 hz6 hD6 hA6 hu6
                go_wp2_with (at_builtin; refine wpList_append_key _ rfl (.tmp 112) (.tmp 114) rfl w1.heap.size _ (G.take j) rfl ?a5 _ _ rfl (.slice ak m ck) key ?b5 ?u5 ?c5 ?d5 ?_)
                case a5 => exact O6.out.next (below_new _ _)
                case b5 => go_simp
                case u5 => exact own_below K6.out (below_new _ _)
                case c5 => first | exact hlen.out | omega
                case d5 => first | omega | (simp; omega)
                intro v7 w7 hO7 hb7 _ hz7
                obtain ⟨hD7, hA7⟩ := hz7 _ (dn ++ [key]) (D6.out.next (below_new _ _)) A6.out
                have O7 := box hO7
                have D7 := box hD7
                have A7 := box hA7
                have B7 := box ((B6.out.alloc hB6 _).trans hb7)
                clear hO7 hb7 hz7 hD7 hA7
                go_wp2
                go_roundw
                case rel => exact ⟨j + 1, by go_num, by omega, by rw [HTK.out]; exact O7.out, by rw [HDK.out]; exact D7.out, A7.out, B7.out⟩
                case measure => simp [intOf]; omega
    · have hji : ¬ (j : Int) < (P.length : Int) := by omega
      have hjg : j = G.length := by rw [HGL.out]; omega
      have hgt : G.take j = G := by rw [hjg, List.take_length]
      rw [hgt] at KS HDN
      have HDN2 : Box (distK G [] = dn) := box HDN.out
      have hgl6 : G.length ≤ 65536 := by rw [HGL.out]; omega
      have HR2 : Box (keysR [(nmK16, x)] X = (0, dn)) := box (by rw [HR.out, HDN2.out])
      have HDS2 : Box (smallK dn) := box (by rw [← HDN2.out]; exact HDS.out)
      have hdn6 : dn.length ≤ 65536 := by omega
      have HJG := box hjg
      clear hgt hjg O2 D2 AP2
      rw [show j = G.length from HJG.out]
      go_wp2_with fail
      refine (vFmtK_is hgl6 ZG KS.out HTX).mono ?_; rintro e w3 ⟨rfl, hb3⟩
      have B3 := box (BW2.out.trans (hb3.mono BW2.out.size))
      have KD3 := box (KD.out.below hb3)
      have XS3 := box (HX.out.1.below B3.out)
      have BN := box (below_new w3 (.cells #[.string nmK16, .string x] 45))
      have FN := box (fs_one15 nmK16 x w3 45)
      clear hb3
      go_wp2_with fail
      refine (vParseK_is (L := [(nmK16, x)]) S hg x6 ZX FN.out (XS3.out.below BN.out) HR2).mono ?_; rintro e w4 ⟨p4, c4, rfl, hK4, hb4⟩
      have B4 := box (B3.out.trans ((BN.out.trans (hb4.mono BN.out.size)).mono B3.out.size))
      have K4 := box hK4
      have KD4 := box (KD3.out.below (BN.out.trans (hb4.mono BN.out.size)))
      clear hb4 hK4
      go_wp2_with fail
      refine (rSameKeys_is (q := true) hdn6 hdn6 HDS2 HDS2 K4.out KD4.out (box (decide_eq_true rfl))).mono ?_; rintro e w5 ⟨rfl, hb5⟩
      have B5 := box (B4.out.trans (hb5.mono B4.out.size))
      clear hb5
      go_wp2_with fail
      refine (awake16_any _).mono ?_; rintro e w6 ⟨rfl, hb6⟩
      have B6 := box (B5.out.trans (hb6.mono B5.out.size))
      clear hb6
      go_wp2
      go_ret
      exact ⟨rfl, B6.out⟩
set_option maxHeartbeats 2000000 in
theorem back16_walk (p : Option Addr) (cp : Nat) (X : List AX) (a : Option Addr) (cap : Nat) (P : List (List Int)) (w : World)
    (hx0 : X.length ≤ maxLen) (hX0 : Axs w p X ∧ ∀ i (hi : i < X.length), X[i].2.length ≤ maxLen) (hcx : X.length ≤ cp) (hp0 : P.length ≤ maxLen) (hP0 : Izs w a P ∧ ∀ i (hi : i < P.length), P[i].length ≤ maxLen) (hcp : P.length ≤ cap) :
    Calls Tryz.prog 5 #[.slice p X.length cp, .slice a P.length cap] w fun e w' => e = .returned (.bool true) ∧ Below w.heap.size w w' := by
  have HX := box hX0
  have HX0 := box hx0
  have HP := box hP0
  have HP0 := box hp0
  clear hX0 hx0 hP0 hp0
  cases hka : keepA X with
  | false =>
    have HKA := box hka
    clear hka
    go_enter Tryz.func5, Tryz.ntmps5
    go_wp2_with fail
    refine (keepAx_is HX0.out HX.out HKA).mono ?_; rintro e w1 ⟨rfl, rfl⟩
    go_wp2
    go_ret
    exact ⟨rfl, Below.refl _ _⟩
  | true =>
    have HKA := box hka
    have ZX : Box (smallA X) := box (fitX.small (keep_fit hka).2)
    have x6 : X.length ≤ 65536 := by have := (keep_fit hka).1; omega
    cases hv : validX X with
    | false =>
      have HV := box hv
      clear hka hv
      go_enter Tryz.func5, Tryz.ntmps5
      go_wp2_with fail
      refine (keepAx_is HX0.out HX.out HKA).mono ?_; rintro e w1 ⟨rfl, rfl⟩
      go_wp2_with fail
      refine (rValidL_is x6 ZX HX.out.1 HV).mono ?_; rintro e w1 ⟨rfl, hb1⟩
      have B1 := box hb1
      clear hb1
      go_wp2
      go_ret
      exact ⟨rfl, B1.out⟩
    | true =>
      have HV := box hv
      clear hka hv
      by_cases h1 : (P.length : Int) < 1
      · go_enter Tryz.func5, Tryz.ntmps5
        go_wp2_with fail
        refine (keepAx_is HX0.out HX.out HKA).mono ?_; rintro e w1 ⟨rfl, rfl⟩
        go_wp2_with fail
        refine (rValidL_is x6 ZX HX.out.1 HV).mono ?_; rintro e w1 ⟨rfl, hb1⟩
        have B1 := box hb1
        clear hb1
        go_wp2
        go_ret
        exact ⟨rfl, B1.out⟩
      · by_cases h2 : (20 : Int) < (P.length : Int)
        · go_enter Tryz.func5, Tryz.ntmps5
          go_wp2_with fail
          refine (keepAx_is HX0.out HX.out HKA).mono ?_; rintro e w1 ⟨rfl, rfl⟩
          go_wp2_with fail
          refine (rValidL_is x6 ZX HX.out.1 HV).mono ?_; rintro e w1 ⟨rfl, hb1⟩
          have B1 := box hb1
          clear hb1
          go_wp2
          go_ret
          exact ⟨rfl, B1.out⟩
        · exact back16_in p cp X a cap P w HX0 HX HP (by omega) (by omega) HKA HV
end
end Go.Proofs.YtcnohcbhnldglaaGreat.Asc
