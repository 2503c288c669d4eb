/- Merged texts: KeyMine2 KeySpec2 KeyRef. -/
import Derived.Test.YtcnohcbhnldglaaGreatM13
import Derived.Test.YtcnohcbhnldglaaGreatM16
set_option linter.unusedVariables false
set_option linter.unusedSimpArgs false
set_option maxRecDepth 100000
namespace Go.Proofs.YtcnohcbhnldglaaGreat.Asc
section
open Go.RowKit
set_option maxHeartbeats 1000000 in
theorem kofIdx_any (a : Option Addr) (cap : Nat) (V : List ByteArray) (ga gv gi m q o len c : Nat) (n x : ByteArray) (w : World) (hl : V.length ≤ 65536) (hv : Box (∀ v ∈ V, v.size ≤ 65000)) (hn : n.size ≤ 65000) (hx : x.size ≤ 65000) (hm : m < len) (hlen : len ≤ 65536) (h : Box (KofAt w ga gv gi n x m q o len c)) (hF : Box (Ss w a V)) :
    Calls Tryz.prog 71 #[.slice a V.length cap, kofV ga gv gi] w fun e w' => e = .returned (.int .i64 (hitI (hitK (n, V) x V.length))) ∧ Below w.heap.size w w' := by
  unfold kofV
  go_enter Tryz.func71, Tryz.ntmps71
  go_wp2
  go_loopw [8] (fun i wr => ∃ j : Nat, j ≤ V.length ∧ i = .int .i64 j ∧ hitK (n, V) x j = none ∧ Below w.heap.size w wr) (fun i _ => V.length - (intOf i).toNat)
  case atStart => exact ⟨0, Nat.zero_le _, rfl, rfl, Below.refl _ _⟩
  case round =>
    obtain ⟨j, hj, rfl, hall, hbel⟩ := hrel
    have HA := box hall
    have BL := box hbel
    clear hall hbel
    by_cases hlt : j < V.length
    · obtain ⟨q2, off, rfl, c0⟩ := (hF.out.below BL.out) j hlt
      have hy := hv.out _ (List.getElem_mem hlt)
      have hat : atS V j = V[j] := atS_is hlt
      obtain ⟨y, hyy⟩ : ∃ y, V[j] = y := ⟨_, rfl⟩
      rw [hyy] at c0 hy hat
      have K1 := box (h.out.below BL.out)
      obtain ⟨u, hu⟩ : ∃ u, sameV n y x = u := ⟨_, rfl⟩
      have HU := box hu
      have hu2 : sameV (n, V).1 x (atS (n, V).2 j) = u := by
        show sameV n x (atS V j) = u
        rw [hat, sameV_symm, hu]
      cases u with
      | true =>
        have HX : Box (hitK (n, V) x V.length = some j) := box (hit_first (x := (n, V)) HA.out hlt hu2)
        clear hu hat hu2 hyy
        go_wp2_with fail
        refine (kofC_any ga gv gi m q o len c n x y true _ hn hx hy hm hlen K1 HU).mono ?_; rintro e w1 ⟨rfl, hb1⟩
        have B1 := box (BL.out.trans (hb1.mono BL.out.size))
        clear hb1
        go_wp2
        go_ret
        exact ⟨by rw [HX.out]; rfl, B1.out⟩
      | false =>
        have HX : Box (hitK (n, V) x (j + 1) = none) := box (by rw [hit_old hu2]; exact HA.out)
        clear hu hat hu2 hyy
        go_wp2_with fail
        refine (kofC_any ga gv gi m q o len c n x y false _ hn hx hy hm hlen K1 HU).mono ?_; rintro e w1 ⟨rfl, hb1⟩
        have B1 := box (BL.out.trans (hb1.mono BL.out.size))
        clear hb1
        go_wp2
        go_roundw
        case rel => exact ⟨j + 1, by omega, by go_num, HX.out, B1.out⟩
        case measure => simp [intOf]; omega
    · have e : j = V.length := by omega
      have HX : Box (hitK (n, V) x V.length = none) := box (by rw [← e]; exact HA.out)
      clear e
      go_wp2
      go_ret
      exact ⟨by rw [HX.out]; rfl, BL.out⟩
def kofW (w w' : World) (T : Option KY) (e : Ending) : Prop := ∃ v, e = .returned (.tuple #[v, .bool T.isSome]) ∧ OwnS w' w.heap.size v (T.getD []) ∧ Below w.heap.size w w'
theorem kofW_no {w w' : World} {T : Option KY} (h : Box (T = none)) (hb : Below w.heap.size w w') : kofW w w' T (.returned (.tuple #[.slice none 0 0, .bool false])) := by
  rw [h.out]; exact ⟨_, rfl, OwnS.nil _ _, hb⟩
def KoRel (X : List AX) (r : KY) (T : Option KY) (W : World) (v i : Value) (wr : World) : Prop :=
  ∃ (m : Nat) (acc : KY), i = .int .i64 m ∧ m ≤ X.length ∧ acc.length = m ∧ T = keyA (X.drop m) (r.drop m) acc ∧ OwnS wr W.heap.size v acc ∧ Below W.heap.size W wr
set_option maxHeartbeats 4000000 in
theorem mKeyOf_any (p : Option Addr) (cp : Nat) (X : List AX) (b : Option Addr) (c : Nat) (r : KY) (w : World) (hx : X.length ≤ 65536) (hr : r.length ≤ 65536) (zx : Box (smallA X)) (zr : Box (∀ v ∈ r, v.size ≤ 65000)) (hX : Box (Axs w p X)) (hR : Box (Ss w b r)) :
    Calls Tryz.prog 44 #[.slice p X.length cp, .slice b r.length c] w fun e w' => kofW w w' (keyA X r []) e := by
  obtain ⟨T, hT⟩ : ∃ T, keyA X r [] = T := ⟨_, rfl⟩
  rw [hT]
  have hmf : ∀ (fn : Fn) (first cap : Array Value) (w : World), (Instr.makeFunc fn first cap).run Tryz.prog w = .ok (.func fn first cap) w := fun _ _ _ _ => rfl
  have B0 := box (below_new w (.cells #[.slice b r.length c] 33))
  have C0 : Box ((w.alloc (.cells #[.slice b r.length c] 33)).cell? ⟨w.heap.size, 0, none⟩ = some (.slice b r.length c)) := box (by rw [World.cell?_alloc_at _ _ _ _ rfl]; rfl)
  have hs1 : (w.alloc (.cells #[.slice b r.length c] 33)).heap.size = w.heap.size + 1 := by simp
  by_cases hrl : r.length = X.length
  · have hrn : ((r.length : Int) != (X.length : Int)) = false := by simp [hrl]
    have HRL := box hrl
    have HT := box hT
    obtain ⟨W1, hW1⟩ : ∃ W1, w.alloc (.cells #[.slice b r.length c] 33) = W1 := ⟨_, rfl⟩
    have HW1 := box hW1
    rw [hW1] at B0 C0 hs1
    have XS := box (hX.out.below B0.out)
    have RS := box (hR.out.below B0.out)
    have HS1 := box hs1
    clear hT hrl hW1 hs1
    go_enter Tryz.func44, Tryz.ntmps44
    go_wp2
    rw [HW1.out]
    go_loopw [6, 17] (fun v i wr => KoRel X r T W1 v i wr) (fun _ i _ => X.length - (intOf i).toNat)
    case atStart => exact ⟨0, [], rfl, Nat.zero_le _, rfl, by rw [List.drop_zero, List.drop_zero]; exact HT.out.symm, OwnS.nil _ _, Below.refl _ _⟩
    case round =>
      obtain ⟨w5, rfl⟩ : ∃ w5, w5 = wr := ⟨_, rfl⟩
      obtain ⟨m, key, rfl, hm, hkl, hTm, hO, hbel⟩ := hrel
      have K0 := box hO
      have BK := box hbel
      have HTm := box hTm
      have HKL := box hkl
      have hk6 : key.length ≤ 65536 := by omega
      have hBk := hbel.size
      obtain ⟨ak, ck, rfl, hss, _⟩ := hO.ss
      clear hO hbel hTm hkl hss
      by_cases hmt : m < X.length
      · have hmi : (m : Int) < (X.length : Int) := by omega
        have hm0 : (0 : Int) ≤ (m : Int) := by omega
        have hmr : m < r.length := by rw [HRL.out]; exact hmt
        obtain ⟨g, off, vv, rfl, cN, cV, bv, cv2, rfl, hsv, _⟩ := (XS.out.below BK.out) m hmt
        obtain ⟨g2, off2, rfl, d2⟩ := (RS.out.below BK.out) m hmr
        have c0 := (BK.out.cell (cell_lt C0.out)).trans C0.out
        obtain ⟨y1, y2, y3⟩ := zx.out m hmt
        have hdX : X.drop m = X[m] :: X.drop (m + 1) := List.drop_eq_getElem_cons hmt
        have hdr : r.drop m = r[m] :: r.drop (m + 1) := List.drop_eq_getElem_cons hmr
        have hxz := zr.out _ (List.getElem_mem hmr)
        obtain ⟨⟨n, V⟩, hnV⟩ : ∃ x, X[m] = x := ⟨_, rfl⟩
        obtain ⟨x, hxr⟩ : ∃ x, r[m] = x := ⟨_, rfl⟩
        rw [hnV] at cN cV hsv y1 y2 hdX
        rw [hxr] at d2 hdr hxz
        simp only at cN cV hsv y1 y2
        have Y3 : Box (∀ v ∈ V, v.size ≤ 65000) := box (fun v hv => by
          obtain ⟨i, hi, rfl⟩ := List.mem_iff_getElem.1 hv
          have := y3 i (by rw [hnV]; exact hi)
          simpa [hnV] using this)
        have HNone3 : Box (hitK (n, V) x V.length = none → T = none) := box (fun h => by rw [HTm.out, hdX, hdr]; exact keyA_none (one_none (x := (n, V)) h))
        have HSome3 : Box (∀ z, hitK (n, V) x V.length = some z → T = keyA (X.drop (m + 1)) (r.drop (m + 1)) (key ++ [atS V z])) := box (fun z h => by rw [HTm.out, hdX, hdr]; exact keyA_some (one_some (x := (n, V)) h))
        obtain ⟨w6, hw6⟩ : ∃ w6, (w5.alloc (.cells #[.int .i64 (m : Int)] 3)).alloc (.cells #[.string n, .slice bv V.length cv2] 42) = w6 := ⟨_, rfl⟩
        have B6 : Box (Below w5.heap.size w5 w6) := box (by rw [← hw6]; exact (below_new w5 _).alloc (below_new w5 _).size _)
        have HW6 := box hw6
        have hsa : (w5.alloc (.cells #[.int .i64 (m : Int)] 3)).heap.size = w5.heap.size + 1 := by simp
        have KA : Box (KofAt w6 (w5.heap.size + 1) w.heap.size w5.heap.size n x m g2 off2 r.length c) := box (by
          refine ⟨?_, (B6.out.cell (cell_lt c0)).trans c0, ?_, (B6.out.cell (cell_lt d2)).trans d2⟩
          · rw [← hw6, World.cell?_alloc_at (hn := hsa.symm)]; rfl
          · rw [← hw6, (below_new _ _).cell (by simp), World.cell?_alloc_at (hn := rfl)]; rfl)
        have CV : Box (w6.cell? ⟨w5.heap.size + 1, 1, none⟩ = some (.slice bv V.length cv2)) := box (by rw [← hw6, World.cell?_alloc_at (hn := hsa.symm)]; rfl)
        have SV := box (hsv.below B6.out)
        have hr65 : r.length ≤ 65536 := hr
        obtain ⟨z0, hz⟩ : ∃ z, hitK (n, V) x V.length = z := ⟨_, rfl⟩
        have HZ := box hz
        clear hdX hdr hxr hsv y3 hw6 hz
        go_wp2_with fail
        rw [HW6.out]
        refine (kofIdx_any bv cv2 V (w5.heap.size + 1) w.heap.size w5.heap.size m g2 off2 r.length c n x _ y2 Y3 y1 hxz hmr hr65 KA SV).mono ?_; rintro e w7 ⟨rfl, hb7⟩
        rw [HZ.out]
        have B7 := box (B6.out.trans (hb7.mono B6.out.size))
        have cV7 := (hb7.cell (cell_lt CV.out)).trans CV.out
        have SV7 := box (SV.out.below hb7)
        have BW7 := box (BK.out.trans (B7.out.mono hBk))
        have hBw7 := BW7.out.size
        clear hb7 cN cV d2 c0
        cases z0 with
        | none =>
          have HB := box (HNone3.out HZ.out)
          simp only [hitI]
          go_wp2
          go_ret2
          exact kofW_no HB (B0.out.trans (BW7.out.mono B0.out.size))
        | some z =>
          have HN := box (HSome3.out z HZ.out)
          obtain ⟨hzl, _⟩ := hitK_lt HZ.out
          have hzi : (z : Int) < (V.length : Int) := by omega
          have hz0 : (0 : Int) ≤ (z : Int) := by omega
          have hzn : ¬ (z : Int) < 0 := by omega
          obtain ⟨g3, off3, rfl, d3⟩ := SV7.out z hzl
          have hat : atS V z = V[z] := atS_is hzl
          obtain ⟨y, hy⟩ : ∃ y, V[z] = y := ⟨_, rfl⟩
          rw [hy] at d3 hat
          rw [hat] at HN
          have HL2 : Box ((key ++ [y]).length = m + 1) := box (by rw [List.length_append, HKL.out]; rfl)
          have K7 := box (own_below K0.out B7.out)
          have hlen : Box (key.length ≤ 65536) := box hk6
          clear hat hy
          simp only [hitI]
          go_wp2_with (at_builtin; refine wpList_append_str _ rfl (.tmp 28) (.tmp 34) rfl W1.heap.size _ key rfl ?a1 _ _ rfl y ?b1 ?c1 ?d1 ?_)
          case a1 => exact own_below K7.out (below_new _ _)
          case d1 => first | omega | (simp; omega)
          intro v8 w8 hO8 hb8
          have O8 := box hO8
          have B8 := box ((BW7.out.alloc hBw7 _).trans hb8)
          clear hO8 hb8
          go_wp2
          go_roundw
          case rel => exact ⟨m + 1, key ++ [y], by go_num, by omega, HL2.out, HN.out, O8.out, B8.out⟩
          case measure => simp [intOf]; omega
      · have hmi : ¬ (m : Int) < (X.length : Int) := by omega
        obtain rfl : m = X.length := by omega
        have HKey : Box (T = some key) := box (by
          rw [HTm.out, List.drop_of_length_le (Nat.le_refl _), List.drop_of_length_le (by rw [HRL.out]; exact Nat.le_refl _)]; rfl)
        go_wp2
        go_ret2
        rw [HKey.out]
        exact ⟨_, rfl, Go.Joins.ownsRow_le K0.out (by rw [HS1.out]; omega), B0.out.trans (BK.out.mono B0.out.size)⟩
  · have hrn : ((r.length : Int) != (X.length : Int)) = true := by simp; omega
    have HN : Box (T = none) := box (by rw [← hT]; exact keyA_len X r [] hrl)
    clear hT hrl
    go_enter Tryz.func44, Tryz.ntmps44
    go_wp2
    go_ret2
    exact kofW_no HN B0.out
end
section
/-- the first n values are the Same -/
def sameN (X : List AX) (a b : KY) (n : Nat) : Bool := (List.range n).all fun i => sameV (atA X i).1 (atS a i) (atS b i)
def sameK (X : List AX) (a b : KY) : Bool := decide (a.length = X.length) && decide (b.length = X.length) && sameN X a b X.length
theorem sameN_more (X : List AX) (a b : KY) (n : Nat) : sameN X a b (n + 1) = (sameN X a b n && sameV (atA X n).1 (atS a n) (atS b n)) := range_more _ _
theorem sameN_no {X : List AX} {a b : KY} {n m : Nat} (h : n < m) (h2 : sameV (atA X n).1 (atS a n) (atS b n) = false) : sameN X a b m = false := range_no h h2
theorem sameK_no1 {X : List AX} {a b : KY} (h : a.length ≠ X.length) : sameK X a b = false := by unfold sameK; rw [decide_eq_false h]; rfl
theorem sameK_no2 {X : List AX} {a b : KY} (h : b.length ≠ X.length) : sameK X a b = false := by unfold sameK; rw [decide_eq_false h, Bool.and_false]; rfl
theorem sameK_is {X : List AX} {a b : KY} (h1 : a.length = X.length) (h2 : b.length = X.length) : sameK X a b = sameN X a b X.length := by unfold sameK; rw [decide_eq_true h1, decide_eq_true h2]; rfl
/-- a key written -/
def keyT (k : KY) : ByteArray := bs (writL (k.map fun v => v.data.toList))
def keysT (K : List KY) : ByteArray := joinB (K.map keyT)
def fitK (K : List KY) : Prop := ∀ k ∈ K, k.length ≤ 20 ∧ ∀ v ∈ k, v.size ≤ 1000
theorem keyT_size {k : KY} (h1 : k.length ≤ 20) (h2 : ∀ v ∈ k, v.size ≤ 1000) : (keyT k).size ≤ 41000 := by unfold keyT; rw [bs_size]; exact writ_len h1 h2
theorem keysT_small {K : List KY} (h : fitK K) : ∀ x ∈ K.map keyT, x.size ≤ 65536 := fun x hx => by
  obtain ⟨k, hk, rfl⟩ := List.mem_map.1 hx
  obtain ⟨h1, h2⟩ := h k hk
  have := keyT_size h1 h2
  omega
theorem keyT_more {K : List KY} {k : Nat} (h : k < K.length) : (K.take (k + 1)).map keyT = (K.take k).map keyT ++ [keyT K[k]] := by
  rw [take_next h, List.map_append]; rfl
theorem keyT_len {K : List KY} {k : Nat} (h : k ≤ K.length) : ((K.take k).map keyT).length = k := by rw [List.length_map, List.length_take, Nat.min_eq_left h]
end
section
open Go.RowKit
def SkRel (K L : List KY) (w : World) (i : Value) (wr : World) : Prop := ∃ j : Nat, i = .int .i64 j ∧ j ≤ K.length ∧ K.take j = L.take j ∧ Box (Below w.heap.size w wr)
set_option maxHeartbeats 2000000 in
theorem rSameKeys_any (a b : Option Addr) (ca cb : Nat) (K L : List KY) (w : World) (hk : K.length ≤ 65536) (hl : L.length ≤ 65536) (zk : Box (smallK K)) (zl : Box (smallK L)) (hK : Box (Kss w a K)) (hL : Box (Kss w b L)) :
    Calls Tryz.prog 10 #[.slice a K.length ca, .slice b L.length cb] w fun e w' => e = .returned (.bool (decide (K = L))) ∧ Below w.heap.size w w' := by
  by_cases hn : K.length = L.length
  · have HN := box hn
    have hne : ((K.length : Int) != (L.length : Int)) = false := by simp [hn]
    clear hn
    go_enter Tryz.func10, Tryz.ntmps10
    go_wp2
    go_loopw [5] (fun i wr => SkRel K L w i wr) (fun i _ => K.length - (intOf i).toNat)
    case atStart => exact ⟨0, rfl, Nat.zero_le _, rfl, box (Below.refl _ _)⟩
    case round =>
      obtain ⟨j, rfl, hj, htk, B0⟩ := hrel
      have HTK := box htk
      have hs0 := B0.out.size
      clear htk
      by_cases hlt : j < K.length
      · have hlt2 : j < L.length := by rw [← HN.out]; exact hlt
        have i1 : (0 : Int) ≤ (j : Int) := by omega
        have i2 : (j : Int) < (K.length : Int) := by omega
        have i3 : (j : Int) < (L.length : Int) := by omega
        obtain ⟨g, off, v, rfl, c0, ba, ca2, rfl, hss, _⟩ := (hK.out.below B0.out) j hlt
        obtain ⟨h, of2, v, rfl, d0, bb, cb2, rfl, hst, _⟩ := (hL.out.below B0.out) j hlt2
        obtain ⟨z2, _⟩ := zk.out _ (List.getElem_mem hlt)
        obtain ⟨y2, _⟩ := zl.out _ (List.getElem_mem hlt2)
        obtain ⟨A, hA⟩ : ∃ A, K[j] = A := ⟨_, rfl⟩
        obtain ⟨B, hB⟩ : ∃ B, L[j] = B := ⟨_, rfl⟩
        rw [hA] at c0 hss z2
        rw [hB] at d0 hst y2
        have z6 : A.length ≤ 65536 := by omega
        have y6 : B.length ≤ 65536 := by omega
        have SA := box hss
        have SB := box hst
        clear hss hst z2 y2
        obtain ⟨q, hq⟩ : ∃ q, decide (A = B) = q := ⟨_, rfl⟩
        have HQ := box hq
        cases q with
        | false =>
          have HX : Box (decide (K = L) = false) := box (decide_eq_false (not_same hlt hlt2 (fun e => by rw [hA, hB] at e; exact absurd e (of_decide_eq_false hq))))
          clear hq hA hB
          go_wp2
          go_region_held3 (fun w' => w'.cell? ⟨g, off + j, none⟩ = some (.slice ba A.length ca2) ∧ w'.cell? ⟨h, of2 + j, none⟩ = some (.slice bb B.length cb2)) (first | exact ⟨(hb5.cell (cell_lt c0)).trans c0, (hb5.cell (cell_lt d0)).trans d0⟩ | exact ⟨c0, d0⟩) (first | (go_at_call 27; refine (sameS15_is z6 y6 (SA.out.below (below_drewN _ _)) (SB.out.below (below_drewN _ _)) HQ).mono ?_; rintro e w5 ⟨rfl, hb5⟩))
          all_goals
            have B5 := box (B0.out.trans (((below_drewN _ _).trans hb5).mono B0.out.size))
            clear hb5
            go_wp2
            go_ret
            exact ⟨by rw [HX.out]; rfl, B5.out⟩
        | true =>
          have HX := box (take_same hlt hlt2 HTK.out (by rw [hA, hB]; exact of_decide_eq_true hq))
          clear hq hA hB
          go_wp2
          go_region_held3 (fun w' => w'.cell? ⟨g, off + j, none⟩ = some (.slice ba A.length ca2) ∧ w'.cell? ⟨h, of2 + j, none⟩ = some (.slice bb B.length cb2)) (first | exact ⟨(hb5.cell (cell_lt c0)).trans c0, (hb5.cell (cell_lt d0)).trans d0⟩ | exact ⟨c0, d0⟩) (first | (go_at_call 27; refine (sameS15_is z6 y6 (SA.out.below (below_drewN _ _)) (SB.out.below (below_drewN _ _)) HQ).mono ?_; rintro e w5 ⟨rfl, hb5⟩))
          all_goals
            have B5 := box (B0.out.trans (((below_drewN _ _).trans hb5).mono B0.out.size))
            clear hb5
            go_wp2
            go_roundw
            case rel => exact ⟨j + 1, by go_num, by omega, HX.out, B5⟩
            case measure => simp [intOf]; omega
      · have e : j = K.length := by omega
        have E : Box (decide (K = L) = true) := box (decide_eq_true (by
          have h := HTK.out
          subst e
          rw [List.take_length, HN.out, List.take_length] at h
          exact h))
        clear e
        go_wp2
        go_ret
        exact ⟨by rw [E.out]; rfl, B0.out⟩
  · have hne : ((K.length : Int) != (L.length : Int)) = true := by simp; omega
    have HN : Box (decide (K = L) = false) := box (decide_eq_false (fun e => hn (by rw [e])))
    clear hn
    go_enter Tryz.func10, Tryz.ntmps10
    go_wp2
    go_ret
    exact ⟨by rw [HN.out]; rfl, Below.refl _ _⟩
theorem rSameKeys_is {a b : Option Addr} {ca cb : Nat} {K L : List KY} {q : Bool} {w : World} (hk : K.length ≤ 65536) (hl : L.length ≤ 65536) (zk : Box (smallK K)) (zl : Box (smallK L)) (hK : Kss w a K) (hL : Kss w b L) (h : Box (decide (K = L) = q)) :
    Calls Tryz.prog 10 #[.slice a K.length ca, .slice b L.length cb] w fun e w' => e = .returned (.bool q) ∧ Below w.heap.size w w' :=
  (rSameKeys_any a b ca cb K L w hk hl zk zl (box hK) (box hL)).mono fun e w' ⟨h1, h2⟩ => ⟨by rw [h1, h.out], h2⟩
def AkRel (X : List AX) (a b : KY) (w : World) (i : Value) (wr : World) : Prop := ∃ j : Nat, i = .int .i64 j ∧ j ≤ X.length ∧ sameN X a b j = true ∧ Box (Below w.heap.size w wr)
theorem smallA_name {L : List AX} (h : smallA L) {i : Nat} (hi : i < L.length) : L[i].1.size ≤ 65000 := (h i hi).1
set_option maxHeartbeats 4000000 in
theorem rSameKey_any (p : Option Addr) (cp : Nat) (X : List AX) (pa pb : Option Addr) (ca cb : Nat) (a b : KY) (w : World) (hx : X.length ≤ 65536) (ha : a.length ≤ 65536) (hb : b.length ≤ 65536) (zx : Box (smallA X)) (za : Box (∀ v ∈ a, v.size ≤ 65000)) (zb : Box (∀ v ∈ b, v.size ≤ 65000)) (hX : Box (Axs w p X)) (hA : Box (Ss w pa a)) (hB : Box (Ss w pb b)) :
    Calls Tryz.prog 17 #[.slice p X.length cp, .slice pa a.length ca, .slice pb b.length cb] w fun e w' => e = .returned (.bool (sameK X a b)) ∧ Below w.heap.size w w' := by
  by_cases h1 : a.length = X.length
  · have n1 : ((a.length : Int) != (X.length : Int)) = false := by simp [h1]
    by_cases h2 : b.length = X.length
    · have n2 : ((b.length : Int) != (X.length : Int)) = false := by simp [h2]
      obtain ⟨q, hq⟩ : ∃ q, sameK X a b = q := ⟨_, rfl⟩
      have HQ : Box (sameN X a b X.length = q) := box (by rw [← hq, sameK_is h1 h2])
      have L1 := box h1
      have L2 := box h2
      rw [hq]
      clear hq h1 h2
      go_enter Tryz.func17, Tryz.ntmps17
      go_wp2
      go_loopw [7] (fun i wr => AkRel X a b w i wr) (fun i _ => X.length - (intOf i).toNat)
      case atStart => exact ⟨0, rfl, Nat.zero_le _, rfl, box (Below.refl _ _)⟩
      case round =>
        obtain ⟨j, rfl, hj, htk, B0⟩ := hrel
        have HTK := box htk
        have hs0 := B0.out.size
        clear htk
        by_cases hlt : j < X.length
        · have l1 : j < a.length := by rw [L1.out]; exact hlt
          have l2 : j < b.length := by rw [L2.out]; exact hlt
          have i1 : (0 : Int) ≤ (j : Int) := by omega
          have i2 : (j : Int) < (X.length : Int) := by omega
          have i3 : (j : Int) < (a.length : Int) := by omega
          have i4 : (j : Int) < (b.length : Int) := by omega
          obtain ⟨g, off, v, rfl, c0, c1, _⟩ := (hX.out.below B0.out) j hlt
          obtain ⟨g1, off1, rfl, d1⟩ := (hA.out.below B0.out) j l1
          obtain ⟨g2, off2, rfl, d2⟩ := (hB.out.below B0.out) j l2
          have z1 := smallA_name zx.out hlt
          have z2 := za.out _ (List.getElem_mem l1)
          have z3 := zb.out _ (List.getElem_mem l2)
          have e1 : (atA X j).1 = X[j].1 := by rw [atA_is hlt]
          have e2 : atS a j = a[j] := atS_is l1
          have e3 : atS b j = b[j] := atS_is l2
          obtain ⟨n, hn⟩ : ∃ n, X[j].1 = n := ⟨_, rfl⟩
          obtain ⟨x, hxx⟩ : ∃ n, a[j] = n := ⟨_, rfl⟩
          obtain ⟨y, hy⟩ : ∃ n, b[j] = n := ⟨_, rfl⟩
          rw [hn] at c0 z1 e1
          rw [hxx] at d1 z2 e2
          rw [hy] at d2 z3 e3
          obtain ⟨r, hr⟩ : ∃ r, sameV n x y = r := ⟨_, rfl⟩
          have HR := box hr
          have HE : sameV (atA X j).1 (atS a j) (atS b j) = r := by rw [e1, e2, e3, hr]
          cases r with
          | false =>
            have HX : Box (q = false) := box (by rw [← HQ.out]; exact sameN_no hlt HE)
            clear hr hn hxx hy e1 e2 e3 HE c1
            go_wp2
            go_region_held3 (fun w' => w'.cell? ⟨g, off + j * 2, none⟩ = some (.string n) ∧ w'.cell? ⟨g1, off1 + j, none⟩ = some (.string x) ∧ w'.cell? ⟨g2, off2 + j, none⟩ = some (.string y)) (first | exact ⟨(hb5.cell (cell_lt c0)).trans c0, (hb5.cell (cell_lt d1)).trans d1, (hb5.cell (cell_lt d2)).trans d2⟩ | exact ⟨c0, d1, d2⟩) (first | (go_at_call 26; refine (rSame15_is z1 z2 z3 HR).mono ?_; rintro e w5 ⟨rfl, hb5⟩))
            all_goals
              have B5 := box (B0.out.trans (((below_drewN _ _).trans hb5).mono B0.out.size))
              clear hb5
              go_wp2
              go_ret
              exact ⟨by rw [HX.out]; rfl, B5.out⟩
          | true =>
            have HX : Box (sameN X a b (j + 1) = true) := box (by rw [sameN_more, HTK.out, HE]; rfl)
            clear hr hn hxx hy e1 e2 e3 HE c1
            go_wp2
            go_region_held3 (fun w' => w'.cell? ⟨g, off + j * 2, none⟩ = some (.string n) ∧ w'.cell? ⟨g1, off1 + j, none⟩ = some (.string x) ∧ w'.cell? ⟨g2, off2 + j, none⟩ = some (.string y)) (first | exact ⟨(hb5.cell (cell_lt c0)).trans c0, (hb5.cell (cell_lt d1)).trans d1, (hb5.cell (cell_lt d2)).trans d2⟩ | exact ⟨c0, d1, d2⟩) (first | (go_at_call 26; refine (rSame15_is z1 z2 z3 HR).mono ?_; rintro e w5 ⟨rfl, hb5⟩))
            all_goals
              have B5 := box (B0.out.trans (((below_drewN _ _).trans hb5).mono B0.out.size))
              clear hb5
              go_wp2
              go_roundw
              case rel => exact ⟨j + 1, by go_num, by omega, HX.out, B5⟩
              case measure => simp [intOf]; omega
        · have e : j = X.length := by omega
          have E : Box (q = true) := box (by rw [← HQ.out, ← e]; exact HTK.out)
          clear e
          go_wp2
          go_ret
          exact ⟨by rw [E.out]; rfl, B0.out⟩
    · have n2 : ((b.length : Int) != (X.length : Int)) = true := by simp; omega
      have HN := box (sameK_no2 (a := a) h2)
      clear h1 h2
      go_enter Tryz.func17, Tryz.ntmps17
      go_wp2
      go_ret
      exact ⟨by rw [HN.out]; rfl, Below.refl _ _⟩
  · have n1 : ((a.length : Int) != (X.length : Int)) = true := by simp; omega
    have HN := box (sameK_no1 (b := b) h1)
    clear h1
    go_enter Tryz.func17, Tryz.ntmps17
    go_wp2
    go_ret
    exact ⟨by rw [HN.out]; rfl, Below.refl _ _⟩
def FkRel (K : List KY) (W : World) (v i : Value) (wr : World) : Prop :=
  ∃ k : Nat, i = .int .i64 k ∧ k ≤ K.length ∧ OwnS wr W.heap.size v ((K.take k).map keyT) ∧ Below W.heap.size W wr
set_option maxHeartbeats 4000000 in
theorem rFmtKeys_any (a : Option Addr) (cap : Nat) (K : List KY) (w : World) (hl : K.length ≤ 65536) (hz : Box (fitK K)) (hF : Box (Kss w a K)) :
    Calls Tryz.prog 15 #[.slice a K.length cap] w fun e w' => e = .returned (.string (keysT K)) ∧ Below w.heap.size w w' := by
  go_enter Tryz.func15, Tryz.ntmps15
  go_wp2
  go_loopw [3, 4] (fun v i wr => FkRel K w v i wr) (fun _ i _ => K.length - (intOf i).toNat)
  case atStart => exact ⟨0, rfl, Nat.zero_le _, OwnS.nil _ _, Below.refl _ _⟩
  case round =>
    obtain ⟨k, rfl, hk, hO, hbel⟩ := hrel
    have O0 := box hO
    have BL := box hbel
    have hs0 := hbel.size
    obtain ⟨av, cv, rfl, hss0, _⟩ := hO.ss
    have SS0 := box hss0
    rw [keyT_len hk] at O0 ⊢
    clear hO hbel hss0
    by_cases hlt : k < K.length
    · have hki : (k : Int) < (K.length : Int) := by omega
      have hk0 : (0 : Int) ≤ (k : Int) := by omega
      obtain ⟨g, off, v, rfl, c0, b, c, rfl, hss, _⟩ := (hF.out.below BL.out) k hlt
      obtain ⟨z1, z2⟩ := hz.out _ (List.getElem_mem hlt)
      have HT := box (keyT_more hlt)
      obtain ⟨V, hV⟩ : ∃ V, K[k] = V := ⟨_, rfl⟩
      rw [hV] at c0 hss z1 z2 HT
      have SS := box hss
      have Z2 := box z2
      have hVl : V.length ≤ 65536 := by omega
      obtain ⟨x, hx⟩ : ∃ x, keyT V = x := ⟨_, rfl⟩
      rw [hx] at HT
      have HX : Box (bs (writL (V.map fun v => v.data.toList)) = x) := box hx
      have hlen : Box (((K.take k).map keyT).length ≤ 65536) := box (by rw [keyT_len hk]; omega)
      clear hss z2 hV hx SS0
      go_wp2_with fail
      refine (rWritten_is hVl Z2 SS.out HX).mono ?_; rintro e w2 ⟨rfl, hb2⟩
      have O2 := box (own_below O0.out hb2)
      have B2 := box (BL.out.trans (hb2.mono hs0))
      have hs2 := B2.out.size
      clear hb2 c0
      go_wp2_with (at_builtin; refine wpList_append_str _ rfl (.tmp 11) (.tmp 17) rfl w.heap.size _ ((K.take k).map keyT) rfl ?a1 _ _ rfl x ?b1 ?c1 ?d1 ?_)
      case a1 => exact own_below O2.out (below_new _ _)
      case b1 => go_simp
      case c1 => exact hlen.out
      case d1 => simp; omega
      intro v3 w3 hO3 hb3
      have O3 := box hO3
      have B3 := box ((B2.out.alloc hs2 _).trans hb3)
      clear hO3 hb3
      go_wp2
      go_roundw
      case rel => exact ⟨k + 1, by go_num, by omega, by rw [HT.out, List.map_take]; exact O3.out, B3.out⟩
      case measure => simp [intOf]; omega
    · have hki : ¬ (k : Int) < (K.length : Int) := by omega
      obtain rfl : k = K.length := by omega
      rw [List.take_length] at SS0
      have HJ : Box (joinB (K.map keyT) = keysT K) := box rfl
      have hml : Box ((K.map keyT).length = K.length) := box (List.length_map _)
      have hml6 : Box ((K.map keyT).length ≤ 65536) := box (by rw [List.length_map]; exact hl)
      have hsz := box (keysT_small hz.out)
      go_wp2_with fail
      refine (rJoin15_is hml hml6 hsz SS0.out HJ).mono ?_; rintro e w3 ⟨rfl, rfl⟩
      go_wp2
      go_ret
      exact ⟨rfl, BL.out⟩
end
end Go.Proofs.YtcnohcbhnldglaaGreat.Asc
