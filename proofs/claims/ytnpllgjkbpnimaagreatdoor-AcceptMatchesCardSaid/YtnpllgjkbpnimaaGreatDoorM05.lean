/- Merged texts: ParRef. -/
import Derived.Test.YtnpllgjkbpnimaaGreatDoorM01
import Derived.Test.YtnpllgjkbpnimaaGreatDoorM02
import Derived.Test.YtnpllgjkbpnimaaGreatDoorM03
import Derived.Test.YtnpllgjkbpnimaaGreatDoorM04
set_option linter.unusedVariables false
set_option linter.unusedSimpArgs false
set_option maxRecDepth 100000
namespace Go.Proofs.YtnpllgjkbpnimaaGreatDoor.Asc
section
open Go.RowKit
theorem rIndex61_is {s : ByteArray} {n : Int} {w : World} (hs : s.size ≤ maxLen) (h : Box (idxF s.data.toList 61 0 = n)) :
    Calls Tryz.prog 34 #[.string s, .int .u8 61, .int .i64 0] w fun e w' => e = .returned (.int .i64 n) ∧ w = w' :=
  (rIndex_any s 61 61 0 w hs (Nat.zero_le _) rfl).mono fun e w' ⟨h1, h2⟩ => ⟨by rw [h1, h.out], h2⟩
theorem rToken_is {s : ByteArray} {b : Bool} {w : World} (hs : s.size ≤ maxLen) (h : Box (tokL s.data.toList = b)) :
    Calls Tryz.prog 17 #[.string s] w fun e w' => e = .returned (.bool b) ∧ w = w' :=
  (rToken_any s w hs).mono fun e w' ⟨h1, h2⟩ => ⟨by rw [h1, h.out], h2⟩
theorem rUnq_is {s : ByteArray} {o : Option (List UInt8)} {w : World} (hs : s.size ≤ 4294967296) (h : Box (unqL s.data.toList = o)) :
    Calls Tryz.prog 64 #[.string s] w fun e w' => e = .returned (optV o) ∧ Below w.heap.size w w' :=
  (rUnquote_any s w hs).mono fun e w' ⟨h1, h2⟩ => ⟨by rw [h1, h.out], h2⟩
theorem rLower9_is {s x : ByteArray} {w : World} (hs : s.size ≤ 4294967296) (h : Box (bs (lowL s.data.toList) = x)) :
    Calls Tryz.prog 35 #[.string s] w fun e w' => e = .returned (.string x) ∧ Below w.heap.size w w' :=
  (rLower_any s w hs).mono fun e w' ⟨h1, h2⟩ => ⟨by rw [h1, ← h.out]; rfl, h2⟩
theorem idx_none {l : List UInt8} {c : UInt8} (h : Lib.indexByte l c = -1) : idxF l c 0 = -1 := by unfold idxF; rw [List.drop_zero, if_pos h]
theorem idx_some {l : List UInt8} {c : UInt8} {o : Nat} (h : Lib.indexByte l c = (o : Int)) : idxF l c 0 = (o : Int) := by
  unfold idxF; rw [List.drop_zero, if_neg (by omega), h]; simp
theorem idx_cases (l : List UInt8) (c : UInt8) : Lib.indexByte l c = -1 ∨ ∃ o : Nat, Lib.indexByte l c = (o : Int) ∧ o < l.length := by
  have hg := Lib.indexByte_ge l c
  by_cases h : Lib.indexByte l c = -1
  · exact .inl h
  · refine .inr ⟨(Lib.indexByte l c).toNat, by omega, ?_⟩
    exact (cut_at (l := l) (c := c) (k := (Lib.indexByte l c).toNat) (by omega)).1
theorem ext_take (x : ByteArray) (o : Nat) : (x.extract 0 o).data.toList = x.data.toList.take o := by rw [ext_bs, bs_toList, List.drop_zero]
theorem ext_drop (x : ByteArray) (o : Nat) : (x.extract o x.size).data.toList = x.data.toList.drop o := by rw [ext_bs, bs_toList, List.take_of_length_le (by simp)]
def ParRel (qs : List (List UInt8)) (B : Nat) (w : World) (v i : Value) (wr : World) : Prop :=
  ∃ (k : Nat) (acc : List F), i = .int .i64 k ∧ 1 ≤ k ∧ k ≤ qs.length ∧ acc.length ≤ k ∧ parF (qs.drop 1) [] = parF (qs.drop k) acc ∧ OwnP wr B v acc ∧ Below B w wr
def parW (w w' : World) (l : List UInt8) (e : Ending) : Prop := ∃ v, e = .returned (.tuple #[.string (parA l), v, .bool (parO l)]) ∧ OwnP w' w.heap.size v (parB l) ∧ Below w.heap.size w w'
theorem parW_none {w w' : World} {l : List UInt8} (h : parA l = ⟨#[]⟩ ∧ parB l = [] ∧ parO l = false) (hb : Below w.heap.size w w') : parW w w' l (.returned (.tuple #[.string ⟨#[]⟩, .slice none 0 0, .bool false])) := by
  obtain ⟨h1, h2, h3⟩ := h
  exact ⟨_, by rw [h1, h3], by rw [h2]; exact OwnP.nil _ _, hb⟩
set_option maxHeartbeats 4000000 in
theorem rPar_any (s : ByteArray) (w : World) (hs : s.size ≤ 65000) :
    Calls Tryz.prog 33 #[.string s] w fun e w' => parW w w' s.data.toList e := by
  have hz : s.data.toList.length = s.size := by simp
  obtain ⟨v0, ps, hqs⟩ := cut_first 59 s.data.toList
  obtain ⟨qs, hq⟩ : ∃ qs, qs = v0 :: ps := ⟨_, rfl⟩
  have hqs0 : 0 < qs.length := by rw [hq]; simp
  have hq0 : qs[0] = v0 := by subst hq; rfl
  have hq1 : qs.drop 1 = ps := by subst hq; rfl
  have HQ := box hqs
  rw [← hq] at hqs
  have hcnt : qs.length ≤ 65536 := by
    have := cut_count (sep := 59) s.data.toList.length false s.data.toList []
    rw [← hqs]; unfold cutL; omega
  have hsm : Box (∀ p ∈ qs, p.length ≤ 65000) := box (fun p hp => by
    rw [← hqs] at hp
    have := cut_small _ _ _ _ p hp
    simp at this; omega)
  have HCB : Box (cutsB 59 s.data.toList = qs.map bs) := box (by unfold cutsB; rw [hqs])
  have HQ0 := box hq0
  have HQ1 := box hq1
  clear hqs hz hq0 hq1 hq
  have hz0 : (bs qs[0]).size ≤ maxLen := by rw [bs_size]; have := hsm.out qs[0] (List.getElem_mem hqs0); unfold maxLen; omega
  by_cases ht : trimL v0 = []
  · have HT : Box (bs (trimL (bs qs[0]).data.toList) = ⟨#[]⟩) := box (by rw [bs_toList, HQ0.out, ht]; rfl)
    have HN := box (par_none0 HQ.out ht)
    clear ht
    go_enter Tryz.func33, Tryz.ntmps33
    go_wp2_with fail
    refine (rCut_any s 59 _ hs).mono ?_; rintro e w1 ⟨v1, rfl, hO1, hb1⟩
    rw [HCB.out] at hO1
    obtain ⟨a1, cap1, rfl, hS1, hc1⟩ := hO1.ss
    rw [List.length_map] at hc1 ⊢
    obtain ⟨q, off, rfl, c0⟩ := hS1 0 (by rw [List.length_map]; exact hqs0)
    rw [List.getElem_map, Nat.add_zero] at c0
    have B1 := box hb1
    clear hO1 hS1 hb1
    go_wp2_with fail
    refine (rTrim_is hz0 HT).mono ?_; rintro e w2 ⟨rfl, rfl⟩
    go_wp2
    go_ret3
    exact parW_none HN.out B1.out
  · obtain ⟨x0, hx0⟩ : ∃ x0, bs (trimL v0) = x0 := ⟨_, rfl⟩
    have HT : Box (bs (trimL (bs qs[0]).data.toList) = x0) := box (by rw [bs_toList, HQ0.out, hx0])
    have hxe : x0.toList.isEmpty = false := by
      rw [← hx0, toList_bs]
      cases h : trimL v0 with
      | nil => exact absurd h ht
      | cons c r => rfl
    have HX0 := box hx0
    have HNE := box ht
    clear hx0 ht
    go_enter Tryz.func33, Tryz.ntmps33
    go_wp2_with fail
    refine (rCut_any s 59 _ hs).mono ?_; rintro e w1 ⟨v1, rfl, hO1, hb1⟩
    rw [HCB.out] at hO1
    obtain ⟨a1, cap1, rfl, hS1, hc1⟩ := hO1.ss
    rw [List.length_map] at hc1 ⊢
    obtain ⟨q, off, rfl, c0⟩ := hS1 0 (by rw [List.length_map]; exact hqs0)
    rw [List.getElem_map, Nat.add_zero] at c0
    have S1 := box hS1
    have B1 := box hb1
    have hB1 := hb1.size
    clear hO1 hS1 hb1
    go_wp2_with fail
    refine (rTrim_is hz0 HT).mono ?_; rintro e w2 ⟨rfl, rfl⟩
    clear c0
    go_wp2
    go_loopw [7, 8] (fun v i wr => ParRel qs w1.heap.size w1 v i wr) (fun _ i _ => qs.length - (intOf i).toNat)
    case atStart => exact ⟨1, [], rfl, Nat.le_refl _, hqs0, Nat.zero_le _, rfl, OwnP.nil _ _, Below.refl _ _⟩
    case round =>
      obtain ⟨k, acc, rfl, hk1, hk, hak, hP, hO, hbel⟩ := hrel
      rw [HQ1.out] at hP
      have HP := box hP
      obtain ⟨av, cv, rfl, _, _⟩ := hO.fs
      have O0 := box hO
      have BL := box hbel
      have hBw := hbel.size
      clear hO hbel hP
      by_cases hlt : k < qs.length
      · have hmem := List.getElem_mem hlt
        obtain ⟨q', off', e, c1⟩ := (S1.out.below BL.out) k (by rw [List.length_map]; exact hlt)
        rw [List.getElem_map] at c1
        cases e
        have hpz : (bs qs[k]).size ≤ maxLen := by rw [bs_size]; have := hsm.out qs[k] hmem; unfold maxLen; omega
        have hdr : qs.drop k = qs[k] :: qs.drop (k + 1) := List.drop_eq_getElem_cons hlt
        by_cases ht : trimL qs[k] = []
        · have HTk : Box (bs (trimL (bs qs[k]).data.toList) = ⟨#[]⟩) := box (by rw [bs_toList, ht]; rfl)
          have HN : Box (parF ps [] = parF (qs.drop (k + 1)) acc) := box (by rw [HP.out, hdr, parF_skip ht])
          clear hdr ht
          go_wp2_with fail
          refine (rTrim_is hpz HTk).mono ?_; rintro e w2 ⟨rfl, rfl⟩
          go_wp2
          go_roundw
          case rel => exact ⟨k + 1, acc, by go_num, by omega, by omega, by omega, by rw [HQ1.out]; exact HN.out, O0.out, BL.out⟩
          case measure => simp [intOf]; omega
        · obtain ⟨X, hX⟩ : ∃ X, trimL qs[k] = X := ⟨_, rfl⟩
          obtain ⟨x, hx⟩ : ∃ x, bs X = x := ⟨_, rfl⟩
          have hxd : x.data.toList = X := by rw [← hx]; rfl
          have HTk : Box (bs (trimL (bs qs[k]).data.toList) = x) := box (by rw [bs_toList, hX, hx])
          have hxe : x.toList.isEmpty = false := by
            rw [← hx, toList_bs]
            cases h : X with
            | nil => exact absurd (hX.trans h) ht
            | cons c r => rfl
          have hxz : x.size ≤ 65000 := by
            rw [← hx, bs_size, ← hX]
            have := hsm.out qs[k] hmem
            have := trim_le qs[k]
            omega
          have hxm : x.size ≤ maxLen := by unfold maxLen; omega
          have hlx : x.data.toList.length = x.size := by simp
          clear hx
          have HNone : paramL x.data.toList = none → Box (parF ps [] = none) := fun h => box (by rw [HP.out, hdr, parF_bad ht (by rw [hX, ← hxd]; exact h)])
          have HSome : ∀ f, paramL x.data.toList = some f → Box (parF ps [] = parF (qs.drop (k + 1)) (acc ++ [f])) := fun f h => box (by rw [HP.out, hdr, parF_step ht (by rw [hX, ← hxd]; exact h)])
          have HSM := box HSome
          have HNO := box HNone
          clear HSome HNone hdr ht hX hxd
          rcases idx_cases x.data.toList 61 with hi | ⟨o, hi, ho⟩
          · have HI := box (idx_none hi)
            have HB := box (par_none1 HQ.out HNE.out (HNO.out (param_no hi)).out)
            clear hi hlx
            go_wp2_with fail
            refine (rTrim_is hpz HTk).mono ?_; rintro e w2 ⟨rfl, rfl⟩
            go_wp2_with fail
            refine (rIndex61_is hxm HI).mono ?_; rintro e w2 ⟨rfl, rfl⟩
            go_wp2
            go_ret3
            exact parW_none HB.out (B1.out.trans (BL.out.mono hB1))
          · rw [hlx] at ho
            have HI := box (idx_some hi)
            have hoz : (x.extract 0 o).size ≤ maxLen := by rw [ByteArray.size_extract]; unfold maxLen; omega
            have hoz4 : (x.extract 0 o).size ≤ 4294967296 := by rw [ByteArray.size_extract]; omega
            have hvz : (x.extract (o + 1) x.size).size ≤ maxLen := by rw [ByteArray.size_extract]; unfold maxLen; omega
            have hvz4 : (x.extract (o + 1) x.size).size ≤ 4294967296 := by rw [ByteArray.size_extract]; omega
            have e1 := ext_take x o
            have e2 := ext_drop x (o + 1)
            have HZ1 := box hoz
            have HZ2 := box hvz
            have HZ4 := box hvz4
            have HZ3 := box hoz4
            clear hlx hoz hvz hoz4 hvz4
            rcases htk : tokL (x.data.toList.take o) with _ | _
            · have HTK : Box (tokL (x.extract 0 o).data.toList = false) := box (by rw [e1]; exact htk)
              have HB := box (par_none1 HQ.out HNE.out (HNO.out (param_name hi htk)).out)
              clear hi htk e1 e2
              go_wp2_with fail
              refine (rTrim_is hpz HTk).mono ?_; rintro e w2 ⟨rfl, rfl⟩
              go_wp2_with fail
              refine (rIndex61_is hxm HI).mono ?_; rintro e w2 ⟨rfl, rfl⟩
              go_wp2_with fail
              refine (rToken_is HZ1.out HTK).mono ?_; rintro e w2 ⟨rfl, rfl⟩
              go_wp2
              go_ret3
              exact parW_none HB.out (B1.out.trans (BL.out.mono hB1))
            · have HTK : Box (tokL (x.extract 0 o).data.toList = true) := box (by rw [e1]; exact htk)
              obtain ⟨nm, hnm⟩ : ∃ nm, bs (lowL (x.data.toList.take o)) = nm := ⟨_, rfl⟩
              have HLW : Box (bs (lowL (x.extract 0 o).data.toList) = nm) := box (by rw [e1]; exact hnm)
              rcases hvk : tokL (x.data.toList.drop (o + 1)) with _ | _
              · have HVK : Box (tokL (x.extract (o + 1) x.size).data.toList = false) := box (by rw [e2]; exact hvk)
                rcases hu : unqL (x.data.toList.drop (o + 1)) with _ | u
                · have HU : Box (unqL (x.extract (o + 1) x.size).data.toList = none) := box (by rw [e2]; exact hu)
                  have HB := box (par_none1 HQ.out HNE.out (HNO.out (param_bad hi htk hvk hu)).out)
                  clear hi htk hvk hu e1 e2 hnm
                  go_wp2_with fail
                  refine (rTrim_is hpz HTk).mono ?_; rintro e w2 ⟨rfl, rfl⟩
                  go_wp2_with fail
                  refine (rIndex61_is hxm HI).mono ?_; rintro e w2 ⟨rfl, rfl⟩
                  go_wp2_with fail
                  refine (rToken_is HZ1.out HTK).mono ?_; rintro e w2 ⟨rfl, rfl⟩
                  go_wp2_with fail
                  refine (rToken_is HZ2.out HVK).mono ?_; rintro e w2 ⟨rfl, rfl⟩
                  go_wp2_with fail
                  refine (rUnq_is HZ4.out HU).mono ?_; rintro e w3 ⟨rfl, hb3⟩
                  have B3 := box (BL.out.trans (hb3.mono BL.out.size))
                  unfold optV
                  clear hb3
                  go_wp2
                  go_ret3
                  exact parW_none HB.out (B1.out.trans (B3.out.mono hB1))
                · obtain ⟨ub, hub⟩ : ∃ ub, bs u = ub := ⟨_, rfl⟩
                  have HU : Box (unqL (x.extract (o + 1) x.size).data.toList = some u) := box (by rw [e2]; exact hu)
                  have HN : Box (parF ps [] = parF (qs.drop (k + 1)) (acc ++ [(nm, ub)])) := box (by have := (HSM.out _ (param_quo hi htk hvk hu)).out; rw [hnm, hub] at this; exact this)
                  have HUB := box hub
                  clear hi htk hvk hu e1 e2 hnm hub
                  go_wp2_with fail
                  refine (rTrim_is hpz HTk).mono ?_; rintro e w2 ⟨rfl, rfl⟩
                  go_wp2_with fail
                  refine (rIndex61_is hxm HI).mono ?_; rintro e w2 ⟨rfl, rfl⟩
                  go_wp2_with fail
                  refine (rToken_is HZ1.out HTK).mono ?_; rintro e w2 ⟨rfl, rfl⟩
                  go_wp2_with fail
                  refine (rToken_is HZ2.out HVK).mono ?_; rintro e w2 ⟨rfl, rfl⟩
                  go_wp2_with fail
                  refine (rUnq_is HZ4.out HU).mono ?_; rintro e w3 ⟨rfl, hb3⟩
                  rw [show optV (some u) = .tuple #[.string (bs u), .bool true] from rfl, HUB.out]
                  have O3 := box (own_below O0.out hb3)
                  have B3 := box (BL.out.trans (hb3.mono BL.out.size))
                  clear hb3
                  go_wp2_with fail
                  refine (rLower9_is (x := nm) HZ3.out HLW).mono ?_; rintro e w4 ⟨rfl, hb4⟩
                  have O4 := box (own_below O3.out hb4)
                  have B4 := box (B3.out.trans (hb4.mono B3.out.size))
                  clear hb4
                  go_wp2_with (at_builtin; refine wpList_append_prm _ rfl (.tmp 61) (.tmp 68) rfl w1.heap.size _ acc rfl ?a1 _ _ rfl nm ub ?b1 ?b2 ?c1 ?d1 ?_)
                  case a1 => exact own_below O4.out (below_new _ _)
                  case b1 => go_simp
                  case b2 => go_simp
                  case c1 => omega
                  case d1 => have := B4.out.size; simp; omega
                  intro v5 w5 hO5 hb5
                  have O5 := box hO5
                  have B5 := box ((B4.out.alloc B4.out.size _).trans hb5)
                  clear hO5 hb5
                  go_wp2
                  go_roundw
                  case rel => exact ⟨k + 1, acc ++ [(nm, ub)], by go_num, by omega, by omega, by rw [List.length_append]; simp; omega, by rw [HQ1.out]; exact HN.out, O5.out, B5.out⟩
                  case measure => simp [intOf]; omega
              · have HVK : Box (tokL (x.extract (o + 1) x.size).data.toList = true) := box (by rw [e2]; exact hvk)
                obtain ⟨vb, hvb⟩ : ∃ vb, bs (x.data.toList.drop (o + 1)) = vb := ⟨_, rfl⟩
                have hve : x.extract (o + 1) x.size = vb := by rw [← hvb, ← e2]; rfl
                have HN : Box (parF ps [] = parF (qs.drop (k + 1)) (acc ++ [(nm, x.extract (o + 1) x.size)])) := box (by have := (HSM.out _ (param_tok hi htk hvk)).out; rw [hnm, hvb] at this; rw [hve]; exact this)
                clear hi htk hvk e1 e2 hnm hvb hve
                go_wp2_with fail
                refine (rTrim_is hpz HTk).mono ?_; rintro e w2 ⟨rfl, rfl⟩
                go_wp2_with fail
                refine (rIndex61_is hxm HI).mono ?_; rintro e w2 ⟨rfl, rfl⟩
                go_wp2_with fail
                refine (rToken_is HZ1.out HTK).mono ?_; rintro e w2 ⟨rfl, rfl⟩
                go_wp2_with fail
                refine (rToken_is HZ2.out HVK).mono ?_; rintro e w2 ⟨rfl, rfl⟩
                go_wp2_with fail
                refine (rLower9_is (x := nm) HZ3.out HLW).mono ?_; rintro e w4 ⟨rfl, hb4⟩
                have O4 := box (own_below O0.out hb4)
                have B4 := box (BL.out.trans (hb4.mono BL.out.size))
                clear hb4
                go_wp2_with (at_builtin; refine wpList_append_prm _ rfl (.tmp 61) (.tmp 68) rfl w1.heap.size _ acc rfl ?a1 _ _ rfl nm (x.extract (o + 1) x.size) ?b1 ?b2 ?c1 ?d1 ?_)
                case a1 => exact own_below O4.out (below_new _ _)
                case b1 => go_simp
                case b2 => go_simp
                case c1 => omega
                case d1 => have := B4.out.size; simp; omega
                intro v5 w5 hO5 hb5
                have O5 := box hO5
                have B5 := box ((B4.out.alloc B4.out.size _).trans hb5)
                clear hO5 hb5
                go_wp2
                go_roundw
                case rel => exact ⟨k + 1, acc ++ [(nm, x.extract (o + 1) x.size)], by go_num, by omega, by omega, by rw [List.length_append]; simp; omega, by rw [HQ1.out]; exact HN.out, O5.out, B5.out⟩
                case measure => simp [intOf]; omega
      · have HD : Box (parA s.data.toList = x0 ∧ parB s.data.toList = acc ∧ parO s.data.toList = true) := box (by
          have := par_some HQ.out HNE.out (HP.out.trans (by rw [List.drop_of_length_le (by omega)]; rfl))
          rwa [HX0.out] at this)
        go_wp2
        go_ret3
        obtain ⟨d1, d2, d3⟩ := HD.out
        exact ⟨_, by rw [d1, d3]; rfl, by rw [d2]; exact Go.Joins.ownsRow_le O0.out hB1, B1.out.trans (BL.out.mono hB1)⟩
end
end Go.Proofs.YtnpllgjkbpnimaaGreatDoor.Asc
