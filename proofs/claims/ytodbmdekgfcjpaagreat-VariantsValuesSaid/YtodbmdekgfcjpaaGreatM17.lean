/- Merged texts: VarPars VarRef9 LisMine VarFmtM AccSpec4 VarSpec7. -/
import Derived.Test.YtodbmdekgfcjpaaGreatM01
import Derived.Test.YtodbmdekgfcjpaaGreatM03
import Derived.Test.YtodbmdekgfcjpaaGreatM04
import Derived.Test.YtodbmdekgfcjpaaGreatM05
import Derived.Test.YtodbmdekgfcjpaaGreatM07
import Derived.Test.YtodbmdekgfcjpaaGreatM08
import Derived.Test.YtodbmdekgfcjpaaGreatM09
import Derived.Test.YtodbmdekgfcjpaaGreatM10
import Derived.Test.YtodbmdekgfcjpaaGreatM11
import Derived.Test.YtodbmdekgfcjpaaGreatM12
import Derived.Test.YtodbmdekgfcjpaaGreatM14
import Derived.Test.YtodbmdekgfcjpaaGreatM15
import Derived.Test.YtodbmdekgfcjpaaGreatM16
import Derived.Lib.Hide
import Derived.LoopTactic
set_option linter.unusedVariables false
set_option linter.unusedSimpArgs false
set_option maxRecDepth 100000
namespace Go.Proofs.YtodbmdekgfcjpaaGreat.Asc
section
open Go.RowKit
theorem only2 (k : Nat) (w : World) (v0 v1 : Value) : Only k w ((w.setCell ⟨k, 0, none⟩ v0).setCell ⟨k, 1, none⟩ v1) :=
  ((Only.refl k w).setAt 0 v0).setAt 1 v1
theorem grpParse_none {s : ByteArray} {w : World} (hs : s.size ≤ 65000) (h : Box (valuesL s.data.toList = none)) :
    Calls Tryz.prog 67 #[.string s] w fun e w' => e = .returned (.tuple #[.slice none 0 0, .bool false]) ∧ Below w.heap.size w w' := by
  refine (grpParse_any s w hs).mono ?_
  rintro e w' ⟨v, rfl, hO, hb, hn⟩
  rw [hn h.out, h.out]
  exact ⟨rfl, hb⟩
theorem grpParse_some {s : ByteArray} {X : List (List UInt8)} {w : World} (hs : s.size ≤ 65000) (h : Box (valuesL s.data.toList = some X)) :
    Calls Tryz.prog 67 #[.string s] w fun e w' => ∃ a c, e = .returned (.tuple #[.slice a X.length c, .bool true]) ∧ OwnS w' w.heap.size (.slice a X.length c) (X.map bs) ∧ Below w.heap.size w w' := by
  refine (grpParse_any s w hs).mono ?_
  rintro e w' ⟨v, rfl, hO, hb, _⟩
  rw [h.out] at hO ⊢
  obtain ⟨a, c, rfl, _, _⟩ := OwnS.ss (L := X.map bs) hO
  rw [List.length_map] at hO ⊢
  exact ⟨a, c, rfl, hO, hb⟩
/-- parseAxis fails -/
theorem parseAx_no {s : ByteArray} {w : World} (hs : s.size ≤ 65000) (h : Box (memV s.data.toList = none)) :
    Calls Tryz.prog 44 #[.string s] w fun e w' => e = .returned (.tuple #[.agg #[.string ⟨#[]⟩, .slice none 0 0], .bool false]) ∧ Below w.heap.size w w' := by
  obtain ⟨m, hm⟩ : ∃ m, bs (cut1 61 s.data.toList) = m := ⟨_, rfl⟩
  obtain ⟨n, hn⟩ : ∃ n, bs (cut2 61 s.data.toList) = n := ⟨_, rfl⟩
  obtain ⟨b, hb⟩ : ∃ b, cutB 61 s.data.toList = b := ⟨_, rfl⟩
  have HV : Box (cutV 61 s.data.toList = .tuple #[.string m, .string n, .bool b]) := box (by unfold cutV; rw [hm, hn, hb])
  have hm1 : m.data.toList = cut1 61 s.data.toList := by rw [← hm]; rfl
  have hn1 : n.data.toList = cut2 61 s.data.toList := by rw [← hn]; rfl
  have hsl : s.data.toList.length = s.size := by simp
  have hmz : Box (m.size ≤ maxLen) := box (by
    rw [← hm, bs_size]
    have : (cut1 61 s.data.toList).length ≤ s.data.toList.length := by unfold cut1; exact (List.takeWhile_sublist _).length_le
    unfold maxLen; omega)
  have hnz : n.size ≤ 65000 := by
    rw [← hn, bs_size]
    have : (cut2 61 s.data.toList).length ≤ s.data.toList.length := by
      unfold cut2; rw [List.length_drop]; have := (List.dropWhile_sublist (· != (61 : UInt8)) (l := s.data.toList)).length_le; omega
    omega
  have HSM : Box (s.size ≤ maxLen) := box (by unfold maxLen; omega)
  have hcases : valuesL n.data.toList = none ∨ tokL m.data.toList = false := by
    have hh := h.out
    unfold memV at hh
    rw [hm1, hn1]
    by_cases q : cutB 61 s.data.toList = false ∨ tokL (cut1 61 s.data.toList) = false
    · rcases q with q | q
      · left
        have hno : (61 : UInt8) ∉ s.data.toList := by
          intro hc
          have : cutB 61 s.data.toList = true := by unfold cutB; exact List.contains_iff_mem.2 hc
          rw [this] at q; cases q
        have hall : ∀ (l : List UInt8), (61 : UInt8) ∉ l → l.dropWhile (· != (61 : UInt8)) = [] := by
          intro l
          induction l with
          | nil => intro _; rfl
          | cons c r ih =>
            intro hc
            have h1 : c ≠ 61 := fun e => hc (by rw [e]; simp)
            rw [List.dropWhile_cons_of_pos (by simpa using h1)]
            exact ih (fun e => hc (by simp [e]))
        unfold cut2
        rw [hall _ hno]; rfl
      · exact .inr q
    · rw [if_neg q] at hh
      left
      cases hv : valuesL (cut2 61 s.data.toList) with
      | none => rfl
      | some X => rw [hv] at hh; cases hh
  clear hm hn hb hm1 hn1
  have C0 := C2.new (.string ⟨#[]⟩) (.slice none 0 0) w 54
  have B0 := below_new w (.cells #[.string ⟨#[]⟩, .slice none 0 0] 54)
  cases hv : valuesL n.data.toList with
  | none =>
    have HVV := box hv
    clear hcases hv
    go_enter Tryz.func44, Tryz.ntmps44
    go_wp2_with fail
    refine (Cut_any s 61 _ HSM.out).mono ?_; rintro e w1 ⟨rfl, hb1⟩; rw [HV.out]
    go_wp2_with fail
    refine (grpParse_none hnz HVV).mono ?_; rintro e w2 ⟨rfl, hb2⟩
    have hb3 := hb1.trans (hb2.mono hb1.size)
    have B3 := box (B0.trans (hb3.mono B0.size))
    obtain ⟨⟨r0, r1⟩, ⟨f0, f1⟩⟩ := C0.next hb3
    clear hb1 hb2 hb3 C0 B0
    go_wp2
    (try simp only [Exit.inBlock, Exit.then])
    refine bodyPost_ret (v := .tuple #[.agg #[.string ⟨#[]⟩, .slice none 0 0], .bool false]) (by rw [results_cell_tmp rfl]; go_simp) rfl ?_
    exact ⟨rfl, below2 B3.out (Nat.le_refl _) _ _⟩
  | some X =>
    have HT : Box (tokL m.data.toList = false) := box (by
      rcases hcases with q | q
      · rw [hv] at q; cases q
      · exact q)
    have HVV := box hv
    clear hcases hv
    go_enter Tryz.func44, Tryz.ntmps44
    go_wp2_with fail
    refine (Cut_any s 61 _ HSM.out).mono ?_; rintro e w1 ⟨rfl, hb1⟩; rw [HV.out]
    go_wp2_with fail
    refine (grpParse_some hnz HVV).mono ?_; rintro e w2 ⟨a2, c2, rfl, hO2, hb2⟩
    have hb3 := hb1.trans (hb2.mono hb1.size)
    have B3 := box (B0.trans (hb3.mono B0.size))
    obtain ⟨⟨r0, r1⟩, ⟨f0, f1⟩⟩ := C0.next hb3
    clear hb1 hb2 hb3 C0 B0 hO2
    go_wp2_with fail
    refine (aToken_is hmz.out HT).mono ?_; rintro e w3 ⟨rfl, rfl⟩
    go_wp2
    (try simp only [Exit.inBlock, Exit.then])
    refine bodyPost_ret (v := .tuple #[.agg #[.string ⟨#[]⟩, .slice none 0 0], .bool false]) (by rw [results_cell_tmp rfl]; go_simp) rfl ?_
    exact ⟨rfl, below2 B3.out (Nat.le_refl _) _ _⟩
/-- parseAxis gives an axis -/
theorem parseAx_yes {s nm : ByteArray} {V : List ByteArray} {w : World} (hs : s.size ≤ 65000) (h : Box (memV s.data.toList = some (nm, V))) :
    Calls Tryz.prog 44 #[.string s] w fun e w' => ∃ a c, e = .returned (.tuple #[.agg #[.string nm, .slice a V.length c], .bool true]) ∧ OwnS w' w.heap.size (.slice a V.length c) V ∧ Below w.heap.size w w' := by
  obtain ⟨m, hm⟩ : ∃ m, bs (cut1 61 s.data.toList) = m := ⟨_, rfl⟩
  obtain ⟨n, hn⟩ : ∃ n, bs (cut2 61 s.data.toList) = n := ⟨_, rfl⟩
  obtain ⟨b, hb⟩ : ∃ b, cutB 61 s.data.toList = b := ⟨_, rfl⟩
  have HV : Box (cutV 61 s.data.toList = .tuple #[.string m, .string n, .bool b]) := box (by unfold cutV; rw [hm, hn, hb])
  have hm1 : m.data.toList = cut1 61 s.data.toList := by rw [← hm]; rfl
  have hn1 : n.data.toList = cut2 61 s.data.toList := by rw [← hn]; rfl
  have hsl : s.data.toList.length = s.size := by simp
  have hmz6 : m.size ≤ 65000 := by
    rw [← hm, bs_size]
    have : (cut1 61 s.data.toList).length ≤ s.data.toList.length := by unfold cut1; exact (List.takeWhile_sublist _).length_le
    omega
  have hmz : Box (m.size ≤ maxLen) := box (by unfold maxLen; omega)
  have hm4 : m.size ≤ 4294967296 := by omega
  have hnz : n.size ≤ 65000 := by
    rw [← hn, bs_size]
    have : (cut2 61 s.data.toList).length ≤ s.data.toList.length := by
      unfold cut2; rw [List.length_drop]; have := (List.dropWhile_sublist (· != (61 : UInt8)) (l := s.data.toList)).length_le; omega
    omega
  have HSM : Box (s.size ≤ maxLen) := box (by unfold maxLen; omega)
  have hh := h.out
  unfold memV at hh
  rw [← hm1, ← hn1] at hh
  split at hh
  · cases hh
  · rename_i q
    obtain ⟨X, hX, hh2⟩ := Option.map_eq_some_iff.1 hh
    obtain ⟨hnm, hVX⟩ := Prod.mk.inj hh2
    have HVV := box hX
    have HT : Box (tokL m.data.toList = true) := box (by
      rcases e : tokL m.data.toList with _ | _
      · exact absurd (.inr e) q
      · rfl)
    have HLW := box hnm
    subst hVX
    clear hm hn hb hm1 hn1 hh hh2 hX hnm q hmz6
    have C0 := C2.new (.string ⟨#[]⟩) (.slice none 0 0) w 54
    have B0 := below_new w (.cells #[.string ⟨#[]⟩, .slice none 0 0] 54)
    rw [List.length_map]
    go_enter Tryz.func44, Tryz.ntmps44
    go_wp2_with fail
    refine (Cut_any s 61 _ HSM.out).mono ?_; rintro e w1 ⟨rfl, hb1⟩; rw [HV.out]
    go_wp2_with fail
    refine (grpParse_some hnz HVV).mono ?_; rintro e w2 ⟨a2, c2, rfl, hO2, hb2⟩
    have hb3 := hb1.trans (hb2.mono hb1.size)
    have O2 := box hO2
    have hs1 := hb1.size
    have B3 := box (B0.trans (hb3.mono B0.size))
    have C3 := box (C0.next hb3)
    clear hb1 hb2 hb3 C0 B0 hO2
    go_wp2_with fail
    refine (aToken_is hmz.out HT).mono ?_; rintro e w3 ⟨rfl, rfl⟩
    go_wp2_with fail
    refine (aLower_is hm4 HLW).mono ?_; rintro e w4 ⟨rfl, hb4⟩
    have B4 := box (B3.out.trans (hb4.mono B3.out.size))
    have O4 := box (own_below O2.out hb4)
    obtain ⟨⟨r0, r1⟩, ⟨f0, f1⟩⟩ := C3.out.next hb4
    clear hb4
    go_wp2
    (try simp only [Exit.inBlock, Exit.then])
    refine bodyPost_ret (v := .tuple #[.agg #[.string nm, .slice a2 X.length c2], .bool true]) (by rw [results_cell_tmp rfl]; go_simp) rfl ?_
    have hlt : w.heap.size < w1.heap.size := by
      have e : (w.alloc (.cells #[.string ⟨#[]⟩, .slice none 0 0] 54)).heap.size = w.heap.size + 1 := by simp
      omega
    exact ⟨a2, c2, rfl, own_le (own_only O4.out (only2 _ _ _ _) hlt) (Nat.le_of_lt hlt), below2 B4.out (Nat.le_refl _) _ _⟩
theorem vHas_is {a : Option Addr} {cap : Nat} {L : List F} {b : Bool} {w : World} (S : Box (Sm L)) (hF : Box (Fs w a L)) (h : Box (L.any (nmd nmVar) = b)) :
    Calls Tryz.prog 42 #[.slice a L.length cap, .string ⟨#[86, 97, 114, 105, 97, 110, 116, 115]⟩] w fun e w' => e = .returned (.bool b) ∧ Below w.heap.size w w' :=
  (Has_any a cap L nmVar w S.out.1 S (box (by decide)) hF).mono fun e w' ⟨h1, h2⟩ => ⟨by rw [h1, h.out], h2⟩
theorem vAll_is {a : Option Addr} {cap : Nat} {L : List F} {w : World} (S : Box (Sm L)) (hv : Box (∀ x ∈ getL nmVar L, x.size ≤ 65000)) (hF : Box (Fs w a L)) :
    Calls Tryz.prog 43 #[.slice a L.length cap, .string ⟨#[86, 97, 114, 105, 97, 110, 116, 115]⟩] w fun e w' => ∃ v, e = .returned v ∧ OwnS w' w.heap.size v (allB nmVar L) ∧ Below w.heap.size w w' :=
  mAll_any a cap L nmVar w S hv (box (by decide)) hF
theorem vValid_is {v : Value} {B : Nat} {L : List AX} {q : Bool} {w : World} (hO : OwnAx w B v L) (hl : L.length ≤ 65536) (hz : Box (smallA L)) (h : Box (validX L = q)) :
    Calls Tryz.prog 14 #[v] w fun e w' => e = .returned (.bool q) ∧ Below w.heap.size w w' := by
  obtain ⟨a, c, rfl, hA, _⟩ := hO.axs
  exact (mValid_any a c L w hl hz (box hA)).mono fun e w' ⟨h1, h2⟩ => ⟨by rw [h1, h.out], h2⟩
set_option maxHeartbeats 4000000 in
theorem mParseV_any (a : Option Addr) (cap : Nat) (L : List F) (w : World) (S : Box (Sm L)) (hv : Box (∀ x ∈ getL nmVar L, x.size ≤ 65000)) (hF : Box (Fs w a L)) :
    Calls Tryz.prog 19 #[.slice a L.length cap] w fun e w' => varW w w' L e := by
  have hl := S.out.1
  cases hh : L.any (nmd nmVar) with
  | false =>
    have HH := box hh
    have HN := box (vars_none hh)
    clear hh
    go_enter Tryz.func19, Tryz.ntmps19
    go_wp2_with fail
    refine (vHas_is S hF HH).mono ?_; rintro e w1 ⟨rfl, hb1⟩
    have B1 := box hb1
    clear hb1
    go_wp2
    go_ret2
    exact varW_no HN B1.out
  | true =>
    have HH := box hh
    obtain ⟨M, hMM⟩ : ∃ M, allL nmVar L = M := ⟨_, rfl⟩
    have HMB : Box (allB nmVar L = M.map bs) := box (by unfold allB; rw [hMM])
    have HMz : Box (∀ m ∈ M, m.length ≤ 65000) := box (fun m hm => by
      rw [← hMM] at hm
      obtain ⟨x, hx, hle⟩ := all_mem hm
      have := hv.out x hx; omega)
    have hMl : M.length ≤ 64 := by rw [← hMM]; unfold allL; rw [List.length_take]; omega
    obtain ⟨T, hT⟩ : ∃ T, memsV M [] = T := ⟨_, rfl⟩
    have HT : Box (memsV (allL nmVar L) [] = T) := box (by rw [hMM, hT])
    have HT0 := box hT
    clear hh hMM hT
    go_enter Tryz.func19, Tryz.ntmps19
    go_wp2_with fail
    refine (vHas_is S hF HH).mono ?_; rintro e w1 ⟨rfl, hb1⟩
    have B1 := box hb1
    have F1 := box (hF.out.below hb1)
    have hs1 := hb1.size
    clear hb1
    go_wp2_with fail
    refine (vAll_is S hv F1).mono ?_; rintro e w2 ⟨v2, rfl, hO2, hb2⟩
    rw [HMB.out] at hO2
    obtain ⟨a2, cap2, rfl, hS2, hc2⟩ := hO2.ss
    rw [List.length_map] at hc2 ⊢
    have S2 := box hS2
    have B2 := box (B1.out.trans (hb2.mono hs1))
    have hs2 := B2.out.size
    clear hO2 hS2 hb2
    go_wp2
    go_loopw [4, 15] (fun v i wr => PvRel M T w2 w2.heap.size v i wr) (fun _ i _ => M.length - (intOf i).toNat)
    case atStart => exact ⟨0, [], rfl, Nat.zero_le _, Nat.le_refl _, by rw [List.drop_zero]; exact HT0.out.symm, box (fun i hi => absurd hi (by simp)), OwnAx.nil _ _, Below.refl _ _⟩
    case round =>
      obtain ⟨j, acc, rfl, hj, haj, hTj, SA, hO, hbel⟩ := hrel
      have O0 := box hO
      have BL := box hbel
      have HTj := box hTj
      have hBw := hbel.size
      obtain ⟨av, cv, rfl, _, _⟩ := hO.axs
      clear hO hbel hTj
      by_cases hlt : j < M.length
      · have hji : (j : Int) < (M.length : Int) := by omega
        have hmem := List.getElem_mem hlt
        obtain ⟨q', off', e, c1⟩ := (S2.out.below BL.out) j (by rw [List.length_map]; exact hlt)
        rw [List.getElem_map] at c1
        cases e
        have hdr : M.drop j = M[j] :: M.drop (j + 1) := List.drop_eq_getElem_cons hlt
        have hmz := HMz.out M[j] hmem
        obtain ⟨x, hx⟩ : ∃ x, bs M[j] = x := ⟨_, rfl⟩
        have hxd : x.data.toList = M[j] := by rw [← hx]; rfl
        rw [hx] at c1
        have hlx : x.data.toList.length = x.size := by simp
        have hxz : x.size ≤ 65000 := by rw [← hlx, hxd]; exact hmz
        have HNone : Box (memV x.data.toList = none → T = none) := box (fun h => by rw [HTj.out, hdr]; exact memsV_bad (by rw [← hxd]; exact h))
        have HSome : Box (∀ f, memV x.data.toList = some f → T = memsV (M.drop (j + 1)) (acc ++ [f])) := box (fun f h => by rw [HTj.out, hdr]; exact memsV_more (by rw [← hxd]; exact h))
        clear hx hdr hmem hmz hxd
        have hBad : T = none → Box (varsE L = 1 ∧ varsX L = []) := fun h => box (vars_bad HH.out (by rw [HT.out, h]))
        have HBad := box hBad
        clear hBad hlx
        cases hmv : memV x.data.toList with
        | none =>
          have HB := HBad.out (HNone.out hmv)
          have HMV := box hmv
          clear hmv
          go_wp2_with fail
          refine (parseAx_no hxz HMV).mono ?_; rintro e w3 ⟨rfl, hb3⟩
          have B3 := box (BL.out.trans (hb3.mono hBw))
          clear hb3
          go_wp2
          go_ret2
          exact varW_no HB (B2.out.trans ((B3.out.alloc B3.out.size _).mono hs2))
        | some f =>
          obtain ⟨nm, V⟩ := f
          have HN := box (HSome.out _ hmv)
          have HMV := box hmv
          have SA2 : Box (smallA (acc ++ [(nm, V)])) := box (small_more SA.out (memV_size hmv) (by rw [show x.data.toList.length = x.size from by simp]; exact hxz))
          clear hmv
          go_wp2_with fail
          refine (parseAx_yes hxz HMV).mono ?_; rintro e w4 ⟨a4, c4, rfl, hO4, hb4⟩
          have O4 := box (O0.out.next hb4)
          have V4 := box (show OwnS w4 w2.heap.size _ V from Go.Joins.ownsRow_le hO4 hBw)
          have B4 := box (BL.out.trans (hb4.mono hBw))
          have hC := C2.new (.string nm) (.slice a4 V.length c4) w4 54
          obtain ⟨⟨r0, r1⟩, _⟩ := hC
          clear hO4 hb4 c1
          go_wp2_with (at_builtin; refine wpList_append_axis _ rfl (.tmp 26) (.tmp 28) rfl w2.heap.size _ acc rfl ?a1 _ _ rfl nm (.slice a4 V.length c4) V ?b1 ?b2 ?u1 ?c1 ?d1 ?_)
          case a1 => exact (O4.out.next (below_new _ _)).next (below_new _ _)
          case b1 => go_simp
          case b2 => go_simp
          case u1 => exact own_below (own_below V4.out (below_new _ _)) (below_new _ _)
          case c1 => omega
          case d1 => have := B4.out.size; simp; omega
          intro v6 w6 hO6 hb6
          have O6 := box hO6
          have B6 := box (((B4.out.alloc B4.out.size _).alloc (by have := B4.out.size; simp; omega) _).trans hb6)
          clear hO6 hb6
          go_wp2
          go_roundw
          case rel => exact ⟨j + 1, acc ++ [(nm, V)], by go_num, by omega, by rw [List.length_append]; simp only [List.length_cons, List.length_nil]; omega, HN.out, SA2, O6.out, B6.out⟩
          case measure => simp [intOf]; omega
      · have hji : ¬ (j : Int) < (M.length : Int) := by omega
        have HTA : Box (T = some acc) := box (by rw [HTj.out, List.drop_of_length_le (by omega)]; rfl)
        have hacc : acc.length ≤ 65536 := by omega
        rcases hvx : validX acc with _ | _
        · have HQ := box hvx
          have HB := box (vars_lim HH.out (HT.out.trans HTA.out) hvx)
          clear hvx
          go_wp2_with fail
          refine (vValid_is O0.out hacc SA HQ).mono ?_; rintro e w3 ⟨rfl, hb3⟩
          have B3 := box (BL.out.trans (hb3.mono hBw))
          clear hb3
          go_wp2
          go_ret2
          exact varW_no HB (B2.out.trans (B3.out.mono hs2))
        · have HQ := box hvx
          have HB := box (vars_ok HH.out (HT.out.trans HTA.out) hvx)
          clear hvx
          go_wp2_with fail
          refine (vValid_is O0.out hacc SA HQ).mono ?_; rintro e w3 ⟨rfl, hb3⟩
          have O3 := box (O0.out.next hb3)
          have B3 := box (BL.out.trans (hb3.mono hBw))
          clear hb3
          go_wp2
          go_ret2
          exact ⟨_, by rw [HB.out.1]; rfl, by rw [HB.out.2]; exact O3.out.le hs2, B2.out.trans (B3.out.mono hs2)⟩
end
section
open Go.RowKit
def fitX (L : List AX) : Prop := ∀ i (hi : i < L.length), fitA L[i]
theorem fitX.small {L : List AX} (h : fitX L) : smallA L := fun i hi => by
  obtain ⟨h1, h2, h3⟩ := h i hi
  exact ⟨by omega, by omega, fun j hj => by have := h3 _ (List.getElem_mem hj); omega⟩
theorem rFmtV_any (a : Option Addr) (cap : Nat) (L : List AX) (w : World) (hl : L.length ≤ 65536) (hz : Box (fitX L)) (hF : Box (Axs w a L)) :
    Calls Tryz.prog 22 #[.slice a L.length cap] w fun e w' => e = .returned (.string (fmtV L)) ∧ Below w.heap.size w w' := by
  have hs : Box (smallA L) := box hz.out.small
  rcases hv : validX L with _ | _
  · have HN : Box (fmtV L = ⟨#[]⟩) := box (by unfold fmtV; rw [hv]; rfl)
    have HQ := box hv
    clear hv
    go_enter Tryz.func22, Tryz.ntmps22
    go_wp2_with fail
    refine (rValid_any a cap L _ hl hs hF).mono ?_; rintro e w1 ⟨rfl, hb1⟩; rw [HQ.out]
    have B1 := box hb1
    clear hb1
    go_wp2
    go_ret
    exact ⟨by rw [HN.out]; rfl, B1.out⟩
  · have HN : Box (fmtV L = axesB L) := box (by unfold fmtV; rw [if_pos hv])
    have HQ := box hv
    clear hv
    go_enter Tryz.func22, Tryz.ntmps22
    go_wp2_with fail
    refine (rValid_any a cap L _ hl hs hF).mono ?_; rintro e w1 ⟨rfl, hb1⟩; rw [HQ.out]
    have B1 := box hb1
    have F1 := box (hF.out.below hb1)
    clear hb1
    go_wp2_with fail
    refine (rAxesText_any a cap L _ hl hz F1).mono ?_; rintro e w2 ⟨rfl, hb2⟩
    have B2 := box (B1.out.trans (hb2.mono B1.out.size))
    clear hb2
    go_wp2
    go_ret
    exact ⟨by rw [HN.out]; rfl, B2.out⟩
end
section
open Go.RowKit
theorem sJoin_any (a : Option Addr) (cap : Nat) (L : List ByteArray) (w : World) (hl : L.length ≤ 65536) (hc : L.length ≤ cap) (hz : Box (∀ x ∈ L, x.size ≤ 65536)) (hF : Box (Ss w a L)) :
    Calls Tryz.prog 75 #[.slice a L.length cap, .string ⟨#[44, 32]⟩] w fun e w' => e = .returned (.string (joinB L)) ∧ Below w.heap.size w w' := by
  match L, hl, hc, hz, hF with
  | [], _, _, _, _ => exact (Join0_any a cap w).mono fun e w' ⟨h1, h2⟩ => ⟨h1, h2 ▸ Below.refl _ _⟩
  | [x], _, _, _, hF =>
    obtain ⟨q, off, rfl, c0⟩ := hF.out 0 (Nat.zero_lt_succ 0)
    exact (Join1_any q off cap x w c0).mono fun e w' ⟨h1, h2⟩ => ⟨h1, h2 ▸ Below.refl _ _⟩
  | x :: y :: r, hl, hc, hz, hF =>
    obtain ⟨q, off, rfl, c0⟩ := hF.out 0 (Nat.zero_lt_succ _)
    exact JoinN_any q off cap (x :: y :: r) w (Nat.le_add_left 2 r.length) hl hc hz hF
theorem mJoin_any (a : Option Addr) (cap : Nat) (L : List ByteArray) (w : World) (hl : L.length ≤ 65536) (hc : L.length ≤ cap) (hz : Box (∀ x ∈ L, x.size ≤ 65536)) (hF : Box (Ss w a L)) :
    Calls Tryz.prog 51 #[.slice a L.length cap] w fun e w' => e = .returned (.string (joinB L)) ∧ Below w.heap.size w w' := by
  go_enter Tryz.func51, Tryz.ntmps51
  go_wp2_with fail
  refine (sJoin_any a cap L _ hl hc hz hF).mono ?_; rintro e w1 ⟨rfl, hb⟩
  have B := box hb
  clear hb
  go_wp2
  go_ret
  exact ⟨rfl, B.out⟩
end
section
open Go.RowKit
/-- an own slice of strings does not lie in a block of cells of an axis -/
theorem own_apart {w : World} {B n G : Nat} {v : Value} {xs : List Value} {cs : Array Value} {fr : Nat × Nat} (h : w.ownsRow B 9 1 v n xs) (hG : w.heap[G]? = some (.cells cs 54 fr)) : v.ownBlock ≠ some G := by
  rcases h.2 with ⟨rfl, _⟩ | ⟨g, cap, cur, rfl, hB, hg, r⟩
  · simp [Value.ownBlock]
  · intro e
    simp [Value.ownBlock] at e
    subst e
    rw [hG] at hg
    simp at hg
/-- append of a string; a block of cells of an axis stays -/
theorem step_append_strA (w : World) {ops : Array Oper} {o : Oper} {a : Act} {K : Act → World → Prop} {Q : Exit → Act → World → Prop} {E : Prop} (hgd : o.guard = none) (s x : Operand)
    (ho : o.op = .call { callee := .builtin .append, args := #[s, x], argTypes := #[52, 52] })
    (B : Nat) (v : Value) (L : List ByteArray) (hs : a.eval s = v) (hown : OwnS w B v L)
    (g : Nat) (c : Nat) (hx : a.eval x = .slice (some ⟨g, 0, none⟩) 1 c) (u : ByteArray) (h0 : w.cell? ⟨g, 0, none⟩ = some (.string u)) (hl : L.length ≤ 65536) (hB : B ≤ w.heap.size)
    (G : Nat) (cs : Array Value) (fr : Nat × Nat) (hG : w.heap[G]? = some (.cells cs 54 fr))
    (h : ∀ v' w', OwnS w' B v' (L ++ [u]) → Below B w w' → w'.heap[G]? = some (.cells cs 54 fr) → K (a.put o.dst v') w') :
    if Region.wanted o (yielded ops a.tmps) = true then Oper.wp Tryz.prog o a w K Q else E := by
  obtain ⟨i0, hi0, hz0, hz1, hz2⟩ := info_parts info_str
  refine step_append_lies (P := Tryz.prog) w hgd s x 52 ho B 9 i0 _ 1 16 Tryz.underlying52 hi0 hz0 hz1 hz2 rfl (by decide) v L.length (L.map Value.string) hs hown ⟨g, 0, none⟩ 1 c [.string u] hx rfl ?_ ?_ (by omega) (by unfold maxLen; omega) (by omega) hB _ rfl ?_
  · intro j u hj
    match j, hj with
    | 0, hj => simp at hj; subst hj; simpa [Addr.add] using h0
  · intro u hu; simp at hu; subst hu; rfl
  · intro g' cap' w' q1 q2 _ _
    refine h _ w' (by simpa [OwnS] using q1) ((Below.refl _ _).grown q2 hB (fun k hk => own_block hown k hk)) ?_
    rw [q2.block G (heap_lt hG) (fun e => own_apart hown hG e.symm)]
    exact hG
/-- the texts of the first k axes -/
def axB (L : List AX) (k : Nat) : List ByteArray := (L.take k).map fun x => bs (axisL x)
theorem axB_len {L : List AX} {k : Nat} (h : k ≤ L.length) : (axB L k).length = k := by unfold axB; rw [List.length_map, List.length_take, Nat.min_eq_left h]
def AfRel (L : List AX) (W : World) (v i : Value) (wr : World) : Prop :=
  ∃ k : Nat, i = .int .i64 k ∧ k ≤ L.length ∧ OwnS wr W.heap.size v (axB L k) ∧ Below W.heap.size W wr
theorem vJoin_is {a : Option Addr} {cap n : Nat} {L : List ByteArray} {x : ByteArray} {w : World} (hn : Box (L.length = n)) (hl : n ≤ 65536) (hc : n ≤ cap) (hz : Box (∀ x ∈ L, x.size ≤ 65536)) (hF : Box (Ss w a L)) (hx : Box (joinB L = x)) :
    Calls Tryz.prog 51 #[.slice a n cap] w fun e w' => e = .returned (.string x) ∧ Below w.heap.size w w' := by
  have h := hn.out
  subst h
  exact (mJoin_any a cap L w hl hc hz hF).mono fun e w' ⟨h1, h2⟩ => ⟨by rw [h1, hx.out], h2⟩
theorem axis_cells {w : World} {G : Nat} {u v : Value} (h : w.heap[G]? = some (.cells #[u, v] 54)) : w.cell? ⟨G, 0, none⟩ = some u ∧ w.cell? ⟨G, 1, none⟩ = some v := by
  refine ⟨?_, ?_⟩
  · rw [Lib.cell_of_heap h]; rfl
  · rw [Lib.cell_of_heap h]; rfl
set_option maxHeartbeats 4000000 in
theorem mFmtV_any (a : Option Addr) (cap : Nat) (L : List AX) (w : World) (hl : L.length ≤ 65536) (hz : Box (fitX L)) (hF : Box (Axs w a L)) :
    Calls Tryz.prog 21 #[.slice a L.length cap] w fun e w' => e = .returned (.string (fmtV L)) ∧ Below w.heap.size w w' := by
  obtain ⟨q, hq⟩ : ∃ q, validX L = q := ⟨_, rfl⟩
  have HQ := box hq
  have HSM : Box (smallA L) := box hz.out.small
  cases q with
  | false =>
    have HV : Box (fmtV L = ⟨#[]⟩) := box (by unfold fmtV; rw [hq]; rfl)
    clear hq
    go_enter Tryz.func21, Tryz.ntmps21
    go_wp2_with fail
    refine (mValid_is hl HSM hF HQ).mono ?_; rintro e w1 ⟨rfl, hb1⟩
    have B1 := box hb1
    clear hb1
    go_wp2
    go_ret
    exact ⟨by rw [HV.out]; rfl, B1.out⟩
  | true =>
    have HV : Box (fmtV L = axesB L) := box (by unfold fmtV; rw [hq]; rfl)
    clear hq
    go_enter Tryz.func21, Tryz.ntmps21
    go_wp2_with fail
    refine (mValid_is hl HSM hF HQ).mono ?_; rintro e W1 ⟨rfl, hb1⟩
    have B1 := box hb1
    have F1 := box (hF.out.below hb1)
    clear hb1
    go_wp2
    go_loopw [3, 11] (fun v i wr => AfRel L W1 v i wr) (fun _ i _ => L.length - (intOf i).toNat)
    case atStart => exact ⟨0, rfl, Nat.zero_le _, OwnS.nil _ _, Below.refl _ _⟩
    case round =>
      obtain ⟨k, rfl, hk, hO, hbel⟩ := hrel
      have O0 := box hO
      have BL := box hbel
      have hs0 := hbel.size
      obtain ⟨av, cv, rfl, hss0, hcv⟩ := hO.ss
      rw [axB_len hk] at O0 hcv ⊢
      have SS0 := box hss0
      clear hO hbel hss0
      by_cases hlt : k < L.length
      · have hki : (k : Int) < (L.length : Int) := by omega
        have hk0 : (0 : Int) ≤ (k : Int) := by omega
        obtain ⟨g, off, v, rfl, c0, c1, b, c, rfl, hss, _⟩ := (F1.out.below BL.out) k hlt
        obtain ⟨z1, z2, z3⟩ := hz.out k hlt
        obtain ⟨n, hn⟩ : ∃ n, L[k].1 = n := ⟨_, rfl⟩
        obtain ⟨V, hV⟩ : ∃ V, L[k].2 = V := ⟨_, rfl⟩
        rw [hn] at c0 z1
        rw [hV] at c1 hss z2 z3
        have BN := box (below_new wr (.cells #[.string n, .slice b V.length c] 54))
        have HNW := box (heap_alloc_new wr (.cells #[.string n, .slice b V.length c] 54))
        have SS := box (hss.below BN.out)
        have Z3 := box z3
        have BL2 := box (BL.out.trans (BN.out.mono hs0))
        have O1 := box (own_below O0.out BN.out)
        obtain ⟨x, hx⟩ : ∃ x, bs (writL (V.map fun v => v.data.toList)) = x := ⟨_, rfl⟩
        have hxz : x.size ≤ 41000 := by rw [← hx, bs_size]; exact writ_len z2 z3
        have HX := box hx
        have r1 : ∀ w, (Op.stringOp .add n ⟨#[61]⟩).run Tryz.prog w = .ok (.string (n ++ ⟨#[61]⟩)) w := fun w => run_string_add_sum w _ _ (by show n.size + 1 ≤ 9223372036854775807; omega)
        have r2 : ∀ w, (Op.stringOp .add (n ++ ⟨#[61]⟩) x).run Tryz.prog w = .ok (.string (n ++ ⟨#[61]⟩ ++ x)) w := fun w => run_string_add_sum w _ _ (by rw [ByteArray.size_append]; show n.size + 1 + x.size ≤ 9223372036854775807; omega)
        have HT : Box (axB L (k + 1) = axB L k ++ [n ++ ⟨#[61]⟩ ++ x]) := box (by
          unfold axB
          rw [take_next hlt, List.map_append]
          congr 1
          rw [List.map_cons, List.map_nil]
          congr 1
          rw [bs_of (n ++ ⟨#[61]⟩ ++ x)]
          congr 1
          rw [ByteArray.data_append, ByteArray.data_append, Array.toList_append, Array.toList_append]
          unfold axisL
          rw [hn, hV, ← hx]
          simp [bs])
        have hlen : Box ((axB L k).length ≤ 65536) := box (by rw [axB_len hk]; omega)
        have hd0 := axis_cells HNW.out
        clear hss z3 hn hV hx
        go_wp2
        refine wp_region_held_drew (S := (fun w' : World => (w'.cell? ⟨wr.heap.size, 0, none⟩ = some (.string n) ∧ w'.cell? ⟨wr.heap.size, 1, none⟩ = some (.slice b V.length c)) ∧ Box (Below W1.heap.size W1 w' ∧ w'.heap[wr.heap.size]? = some (.cells #[.string n, .slice b V.length c] 54)))) (by kernel_rfl) ⟨⟨hd0.1, hd0.2⟩, box ⟨BL2.out.drew, HNW.out⟩⟩ (fun hHeld => ?_)
        refine wpAnyH_take (i := 0) (oi := { dst := some 15, op := Op.move (Operand.tmp 3), type := 52, pos := "variants.go:48", after := #[], guard := none }) (v := ?v0z1) rfl (by kernel_rfl) (by kernel_rfl) (by kernel_rfl) (fun _ _ _ h => h) (Or.inl ⟨by rfl, ?y0z1⟩) (by assumption) ?r0z1
        case y0z1 => (intro w hSw; (try dsimp only at hSw); go_simp; first | done | with_reducible rfl)
        try simp only [Act.put, List.setIfInBounds_toArray, List.set_cons_zero, List.set_cons_succ]
        refine wpAnyH_take (i := 1) (oi := { dst := some 16, op := Op.fieldAddr 54 (Operand.tmp 5) 0, type := 0, pos := "variants.go:48", after := #[], guard := none }) (v := ?v1z1) rfl (by kernel_rfl) (by kernel_rfl) (by kernel_rfl) (fun _ _ _ h => h) (Or.inl ⟨by rfl, ?y1z1⟩) (by assumption) ?r1z1
        case y1z1 => (intro w hSw; (try dsimp only at hSw); go_simp; first | done | with_reducible rfl)
        try simp only [Act.put, List.setIfInBounds_toArray, List.set_cons_zero, List.set_cons_succ]
        refine wpAnyH_take (i := 2) (oi := { dst := some 17, op := Op.load 9 (Operand.tmp 16), type := 9, pos := "variants.go:48", after := #[{ on := 1, ground := Ground.data }], guard := none }) (v := ?v2z1) rfl (by kernel_rfl) (by kernel_rfl) (by kernel_rfl) (fun _ _ _ h => h) (Or.inl ⟨by rfl, ?y2z1⟩) (by assumption) ?r2z1
        case y2z1 => (intro w hSw; (try dsimp only at hSw); go_simp; first | done | with_reducible rfl)
        try simp only [Act.put, List.setIfInBounds_toArray, List.set_cons_zero, List.set_cons_succ]
        refine wpAnyH_take (i := 3) (oi := { dst := some 18, op := Op.binOp BinOp.add 9 (Operand.tmp 17) (Operand.const (Value.string { data := #[61] })) 9, type := 9, pos := "variants.go:48", after := #[{ on := 2, ground := Ground.data }], guard := none }) (v := ?v3z1) rfl (by kernel_rfl) (by kernel_rfl) (by kernel_rfl) (fun _ _ _ h => h) (Or.inl ⟨by rfl, ?y3z1⟩) (by assumption) ?r3z1
        case y3z1 => (intro w hSw; (try dsimp only at hSw); go_simp; first | done | with_reducible rfl)
        try simp only [Act.put, List.setIfInBounds_toArray, List.set_cons_zero, List.set_cons_succ]
        refine wpAnyH_take (i := 4) (oi := { dst := some 19, op := Op.fieldAddr 54 (Operand.tmp 5) 1, type := 0, pos := "variants.go:48", after := #[], guard := none }) (v := ?v4z1) rfl (by kernel_rfl) (by kernel_rfl) (by kernel_rfl) (fun _ _ _ h => h) (Or.inl ⟨by rfl, ?y4z1⟩) (by assumption) ?r4z1
        case y4z1 => (intro w hSw; (try dsimp only at hSw); go_simp; first | done | with_reducible rfl)
        try simp only [Act.put, List.setIfInBounds_toArray, List.set_cons_zero, List.set_cons_succ]
        refine wpAnyH_take (i := 5) (oi := { dst := some 20, op := Op.load 52 (Operand.tmp 19), type := 52, pos := "variants.go:48", after := #[{ on := 4, ground := Ground.data }], guard := none }) (v := ?v5z1) rfl (by kernel_rfl) (by kernel_rfl) (by kernel_rfl) (fun _ _ _ h => h) (Or.inl ⟨by rfl, ?y5z1⟩) (by assumption) ?r5z1
        case y5z1 => (intro w hSw; (try dsimp only at hSw); go_simp; first | done | with_reducible rfl)
        try simp only [Act.put, List.setIfInBounds_toArray, List.set_cons_zero, List.set_cons_succ]
        refine wpAnyH_ready (rs := [6]) (by kernel_rfl) (by simp) ?_
        refine AllReadyH.cons (o := { dst := some 21, op := Op.call { callee := Callee.value (Operand.func 50), args := #[Operand.tmp 20], argTypes := #[52] }, type := 9, pos := "variants.go:48", after := #[{ on := 5, ground := Ground.data }], guard := none }) rfl (fun K hK => ?_) AllReadyH.nil
        go_simp
        refine (grpFormat_any b c V x _ z2 Z3 (box (SS.out.below (Below.refl _ _).drew)) HX).mono ?_; rintro e w2 ⟨rfl, hb2⟩
        have O2 := box (own_below (show OwnS (wr.alloc (.cells #[.string n, .slice b V.length c] 54)).drew W1.heap.size _ _ from O1.out) hb2)
        have BW2 := box (hHeld.2.out.1.trans (hb2.mono hHeld.2.out.1.size))
        go_wp2_with fail
        refine hK.out _ _ ⟨⟨(hb2.cell (p := ⟨wr.heap.size, 0, none⟩) (cell_lt hHeld.1.1)).trans hHeld.1.1, (hb2.cell (p := ⟨wr.heap.size, 1, none⟩) (cell_lt hHeld.1.2)).trans hHeld.1.2⟩, box ⟨hHeld.2.out.1.trans (hb2.mono hHeld.2.out.1.size), (hb2.block _ (heap_lt hHeld.2.out.2)).trans hHeld.2.out.2⟩⟩ (fun hHeld => ?_)
        clear hK K
        try simp only [Act.put, List.setIfInBounds_toArray, List.set_cons_zero, List.set_cons_succ]
        refine wpAnyH_take (i := 7) (oi := { dst := some 22, op := Op.binOp BinOp.add 9 (Operand.tmp 18) (Operand.tmp 21) 9, type := 9, pos := "variants.go:48", after := #[{ on := 3, ground := Ground.data }, { on := 6, ground := Ground.data }], guard := none }) (v := ?v7z1) rfl (by kernel_rfl) (by kernel_rfl) (by kernel_rfl) (fun _ _ _ h => h) (Or.inl ⟨by rfl, ?y7z1⟩) (by assumption) ?r7z1
        case y7z1 => (intro w hSw; (try dsimp only at hSw); go_simp; first | done | with_reducible rfl)
        try simp only [Act.put, List.setIfInBounds_toArray, List.set_cons_zero, List.set_cons_succ]
        refine wpAnyH_ready (rs := [8]) (by kernel_rfl) (by simp) ?_
        refine AllReadyH.cons (o := { dst := some 23, op := Op.buildSlice 52 1 #[(0, Operand.tmp 22)], type := 52, pos := "variants.go:48", after := #[{ on := 7, ground := Ground.data }], guard := none }) rfl (fun K hK => ?_) AllReadyH.nil
        go_simp
        go_wp2_with fail
        refine hK.out _ _ ⟨⟨((below_new _ _).cell (p := ⟨wr.heap.size, 0, none⟩) (cell_lt hHeld.1.1)).trans hHeld.1.1, ((below_new _ _).cell (p := ⟨wr.heap.size, 1, none⟩) (cell_lt hHeld.1.2)).trans hHeld.1.2⟩, box ⟨hHeld.2.out.1.trans ((below_new _ _).mono hHeld.2.out.1.size), ((below_new _ _).block _ (heap_lt hHeld.2.out.2)).trans hHeld.2.out.2⟩⟩ (fun hHeld => ?_)
        clear hK K
        try simp only [Act.put, List.setIfInBounds_toArray, List.set_cons_zero, List.set_cons_succ]
        refine wpAnyH_ready (rs := [9]) (by kernel_rfl) (by simp) ?_
        refine AllReadyH.cons (o := { dst := some 24, op := Op.call { callee := Callee.builtin Builtin.append, args := #[Operand.tmp 15, Operand.tmp 23], argTypes := #[52, 52] }, type := 52, pos := "variants.go:48", after := #[{ on := 0, ground := Ground.data }, { on := 8, ground := Ground.data }, { on := 6, ground := Ground.chain }], guard := none }) rfl (fun K hK => ?_) AllReadyH.nil
        refine step_append_strA _ rfl (.tmp 15) (.tmp 23) rfl W1.heap.size _ _ rfl ?a1 _ _ rfl (n ++ ⟨#[61]⟩ ++ x) ?b1 hlen.out ?d1 wr.heap.size _ _ hHeld.2.out.2 ?_
        case a1 => exact own_below O2.out (below_new _ _)
        case b1 => go_simp
        case d1 => exact Nat.le_trans BW2.out.size (by simp)
        intro v6 w6 hO6 hb6 hG6
        refine hK.out _ _ ⟨axis_cells hG6, box ⟨hHeld.2.out.1.trans hb6, hG6⟩⟩ (fun hHeld => ?_)
        clear hK K
        try simp only [Act.put, List.setIfInBounds_toArray, List.set_cons_zero, List.set_cons_succ]
        refine wpAnyH_take (i := 10) (oi := { dst := some 3, op := Op.assign (Operand.tmp 24), type := 52, pos := "variants.go:48", after := #[{ on := 9, ground := Ground.data }, { on := 9, ground := Ground.chain }, { on := 0, ground := Ground.phase }, { on := 1, ground := Ground.phase }, { on := 2, ground := Ground.phase }, { on := 3, ground := Ground.phase }, { on := 4, ground := Ground.phase }, { on := 5, ground := Ground.phase }, { on := 6, ground := Ground.phase }, { on := 7, ground := Ground.phase }, { on := 8, ground := Ground.phase }, { on := 9, ground := Ground.phase }], guard := none }) (v := ?v10z1) rfl (by kernel_rfl) (by kernel_rfl) (by kernel_rfl) (fun _ _ _ h => h) (Or.inl ⟨by rfl, ?y10z1⟩) (by assumption) ?r10z1
        case y10z1 => (intro w hSw; (try dsimp only at hSw); go_simp; first | done | with_reducible rfl)
        try simp only [Act.put, List.setIfInBounds_toArray, List.set_cons_zero, List.set_cons_succ]
        refine wpAnyH_done (by kernel_rfl) ?_ _
        all_goals
          rw [← HT.out] at hO6
          have O6 := box hO6
          have B6 := box hHeld.2.out.1
          clear hO6 hb6 hb2 hHeld
          go_wp2
          go_roundw
          case rel => exact ⟨k + 1, by go_num, by omega, O6.out, B6.out⟩
          case measure => simp [intOf]; omega
      · have hki : ¬ (k : Int) < (L.length : Int) := by omega
        obtain rfl : k = L.length := by omega
        have HJ : Box (joinB (axB L L.length) = axesB L) := box (by unfold axB axesB; rw [List.take_length])
        have hml : Box ((axB L L.length).length = L.length) := box (axB_len (Nat.le_refl _))
        have hsz : Box (∀ y ∈ axB L L.length, y.size ≤ 65536) := box (fun y hy => by
          unfold axB at hy
          rw [List.take_length] at hy
          obtain ⟨x, hx, rfl⟩ := List.mem_map.1 hy
          obtain ⟨i, hi, rfl⟩ := List.mem_iff_getElem.1 hx
          obtain ⟨z1, z2, z3⟩ := hz.out i hi
          rw [bs_size]
          unfold axisL
          rw [List.length_append, List.length_cons]
          have := writ_len z2 z3
          have e : L[i].1.data.toList.length = L[i].1.size := by simp
          omega)
        clear O0
        go_wp2_with fail
        refine (vJoin_is hml hl hcv hsz SS0 HJ).mono ?_; rintro e w3 ⟨rfl, hb3⟩
        have B3 := box (B1.out.trans ((BL.out.trans (hb3.mono hs0)).mono B1.out.size))
        clear hb3
        go_wp2
        go_ret
        exact ⟨by rw [HV.out]; rfl, B3.out⟩
end
section
def chkR (n : Nat) : Bool := !(lettI (n : Int) || digitI (n : Int) || n == 45) || tokI (n : Int)
theorem chkR_all : ∀ x : Fin 256, chkR x.1 = true := by decide +kernel
theorem let_tok {c : UInt8} (h : lettI c.toNat = true ∨ digitI c.toNat = true ∨ c = 45) : tokI c.toNat = true := by
  have k := chkR_all ⟨c.toNat, c.toNat_lt⟩
  unfold chkR at k
  simp only at k
  rcases h with h | h | h
  · rw [h] at k; simpa using k
  · rw [h] at k; simpa using k
  · subst h; decide
theorem sub_char : ∀ (l : List UInt8), ∀ c ∈ l, c = 45 ∨ ∃ x ∈ subL l, c ∈ x
  | d :: r, c, hc => by
    obtain ⟨y, ys, e⟩ := subL_cons r
    have ih := sub_char r
    by_cases hd : d = 45
    · subst hd
      rw [subL_hyp]
      rcases List.mem_cons.1 hc with rfl | hc
      · exact .inl rfl
      · rcases ih c hc with q | ⟨x, hx, hcx⟩
        · exact .inl q
        · exact .inr ⟨x, by simp [hx], hcx⟩
    · rw [subL_chr hd e]
      rcases List.mem_cons.1 hc with rfl | hc
      · exact .inr ⟨_, List.mem_cons_self, by simp⟩
      · rcases ih c hc with q | ⟨x, hx, hcx⟩
        · exact .inl q
        · rw [e] at hx
          rcases List.mem_cons.1 hx with rfl | hx
          · exact .inr ⟨_, List.mem_cons_self, by simp [hcx]⟩
          · exact .inr ⟨x, by simp [hx], hcx⟩
theorem subOk_char {f : Bool} {x : List UInt8} (h : subOk f x = true) : ∀ c ∈ x, lettI c.toNat = true ∨ digitI c.toNat = true := by
  unfold subOk at h
  rw [Bool.and_eq_true, List.all_eq_true] at h
  intro c hc
  have := h.2 c hc
  rw [Bool.or_eq_true, Bool.and_eq_true] at this
  rcases this with q | ⟨_, q⟩
  · exact .inl q
  · exact .inr q
theorem subs_each {L : List (List UInt8)} (h : subsOk L = true) : ∀ x ∈ L, ∃ f, subOk f x = true := by
  match L, h with
  | [], _ => intro x hx; cases hx
  | y :: ys, h =>
    have h' : (subOk true y && ys.all (subOk false)) = true := h
    rw [Bool.and_eq_true, List.all_eq_true] at h'
    intro x hx
    rcases List.mem_cons.1 hx with rfl | hx
    · exact ⟨true, h'.1⟩
    · exact ⟨false, h'.2 x hx⟩
theorem range_tok {l : List UInt8} (h : rangeT l = true) : tokL l = true := by
  unfold rangeT at h
  rw [Bool.or_eq_true, decide_eq_true_eq] at h
  rcases h with rfl | h
  · decide +kernel
  · unfold tagL at h
    refine tok_mk ?_ fun c hc => ?_
    · intro e; subst e
      have : subsOk (subL []) = false := by decide +kernel
      rw [this] at h; cases h
    · rcases sub_char l c hc with q | ⟨x, hx, hcx⟩
      · exact let_tok (.inr (.inr q))
      · obtain ⟨f, hf⟩ := subs_each h x hx
        rcases subOk_char hf c hcx with q | q
        · exact let_tok (.inl q)
        · exact let_tok (.inr (.inl q))
theorem joinC_len13 : ∀ (ms : List (List UInt8)) (n : Nat), (∀ m ∈ ms, m.length ≤ n) → (joinC ms).length ≤ ms.length * (n + 2)
  | [], n, _ => Nat.zero_le _
  | [m], n, h => by have := h m (by simp); show m.length ≤ 1 * (n + 2); omega
  | m :: y :: r, n, h => by
    have ih := joinC_len13 (y :: r) n (fun x hx => h x (by simp [hx]))
    have h1 := h m (by simp)
    have e : (joinC (m :: y :: r)).length = m.length + 2 + (joinC (y :: r)).length := by
      show (m ++ [44, 32] ++ joinC (y :: r)).length = _
      rw [List.length_append, List.length_append]; rfl
    have e2 : (m :: y :: r).length * (n + 2) = (y :: r).length * (n + 2) + (n + 2) := by
      rw [List.length_cons, Nat.add_mul, Nat.one_mul]
    rw [e, e2]; omega
end
section
theorem blank_text15 {c : UInt8} (h : blankB c = true) : textI c.toNat = true := by
  unfold blankB blankI at h
  unfold textI
  simp only [Bool.or_eq_true, beq_iff_eq] at h
  simp only [Bool.or_eq_true, beq_iff_eq, decide_eq_true_eq]
  rcases h with h | h
  · exact .inl (.inr ⟨by omega, by omega⟩)
  · exact .inl (.inl h)
theorem text_app {a b : List UInt8} (h1 : textL a = true) (h2 : textL b = true) : textL (a ++ b) = true :=
  text_mk fun c hc => by
    rcases List.mem_append.1 hc with q | q
    · exact text_byte h1 c q
    · exact text_byte h2 c q
theorem text_trim15 {l : List UInt8} (h : textL (trimL l) = true) : textL l = true := by
  obtain ⟨a, b, e, ha, hb, _⟩ := trim_split l
  refine text_mk fun c hc => ?_
  rw [e] at hc
  rcases List.mem_append.1 hc with q | q
  · exact blank_text15 (ha c q)
  · rcases List.mem_append.1 q with q | q
    · exact text_byte h c q
    · exact blank_text15 (hb c q)
theorem unq_text {l u : List UInt8} (h : unqL l = some u) : textL l = true := by
  obtain ⟨m, rfl, hm, _⟩ := unq_parts h
  refine text_mk fun c hc => ?_
  rcases List.mem_cons.1 hc with rfl | hc
  · decide
  · rcases List.mem_append.1 hc with q | q
    · exact text_byte hm c q
    · rw [List.mem_singleton.1 q]; decide
theorem cut_join15 {c : UInt8} {l : List UInt8} (h : cutB c l = true) : l = cut1 c l ++ c :: cut2 c l := by
  unfold cutB at h
  have hm := List.contains_iff_mem.1 h
  unfold cut1 cut2
  conv => lhs; rw [← List.takeWhile_append_dropWhile (p := (· != c)) (l := l)]
  congr 1
  cases hd : l.dropWhile (· != c) with
  | nil =>
    have e := List.takeWhile_append_dropWhile (p := (· != c)) (l := l)
    rw [hd, List.append_nil] at e
    have hm2 : c ∈ l.takeWhile (· != c) := by rw [e]; exact hm
    have := (List.all_eq_true.1 (List.all_takeWhile (p := (· != c)) (l := l))) c hm2
    simp at this
  | cons d r =>
    have := List.head?_dropWhile_not (· != c) l
    rw [hd] at this
    have e : d = c := by simpa using this
    rw [e]; rfl
theorem param_text {x : List UInt8} {p : F} (h : paramL x = some p) : textL x = true := by
  unfold paramL at h
  split at h
  · cases h
  · rename_i hc
    have hB : cutB 61 x = true := by
      cases hh : cutB 61 x with
      | true => rfl
      | false => exact absurd (.inl hh) hc
    have hT : tokL (cut1 61 x) = true := by
      cases hh : tokL (cut1 61 x) with
      | true => rfl
      | false => exact absurd (.inr hh) hc
    have h2 : textL (cut2 61 x) = true := by
      split at h
      · rename_i hv; exact tok_text hv
      · cases hu : unqL (cut2 61 x) with
        | none => rw [hu] at h; cases h
        | some u => exact unq_text hu
    rw [cut_join15 hB]
    refine text_app (tok_text hT) (text_mk fun c hc => ?_)
    rcases List.mem_cons.1 hc with rfl | hc
    · decide
    · exact text_byte h2 c hc
theorem parF_text : ∀ (ps : List (List UInt8)) (acc L : List F), parF ps acc = some L → ∀ p ∈ ps, textL p = true
  | [], acc, L, _, p, hp => by simp at hp
  | q :: ps, acc, L, h, p, hp => by
    unfold parF at h
    split at h
    · rename_i ht
      rcases List.mem_cons.1 hp with rfl | hp
      · exact text_trim15 (by rw [ht]; rfl)
      · exact parF_text ps acc L h p hp
    · cases hq : paramL (trimL q) with
      | none => rw [hq] at h; cases h
      | some f =>
        rw [hq] at h
        rcases List.mem_cons.1 hp with rfl | hp
        · exact text_trim15 (param_text hq)
        · exact parF_text ps _ L h p hp
theorem cut_chars {sep : UInt8} : ∀ (f : Nat) (q : Bool) (l acc : List UInt8), l.length ≤ f → ∀ c ∈ acc ++ l, c = sep ∨ ∃ p ∈ cutF sep f q l acc, c ∈ p
  | f, q, [], acc, _, c, hc => .inr ⟨acc, by rw [cutF_nil]; simp, by simpa using hc⟩
  | 0, q, d :: r, acc, h, c, hc => by simp at h
  | f + 1, q, d :: r, acc, h, c, hc => by
    simp only [List.length_cons] at h
    rw [cutF_cons]
    split
    · match r, h, hc with
      | [], h, hc => exact .inr ⟨acc ++ [d], by simp, hc⟩
      | e :: r2, h, hc =>
        simp only [List.length_cons] at h
        exact cut_chars f q r2 (acc ++ [d, e]) (by omega) c (by simpa using hc)
    · split
      · exact cut_chars f (!q) r (acc ++ [d]) (by omega) c (by simpa using hc)
      · split
        · rename_i hs
          rcases List.mem_append.1 hc with hq | hq
          · exact .inr ⟨acc, by simp, hq⟩
          · rcases List.mem_cons.1 hq with rfl | hq
            · exact .inl hs.1
            · rcases cut_chars f q r [] (by omega) c (by simpa using hq) with g | ⟨p, g1, g2⟩
              · exact .inl g
              · exact .inr ⟨p, by simp [g1], g2⟩
        · exact cut_chars f q r (acc ++ [d]) (by omega) c (by simpa using hc)
theorem media_text {s : List UInt8} {m : M} (h : mediaL s = some m) : textL s = true := by
  unfold mediaL at h
  cases hr : rangeL s with
  | none => rw [hr] at h; cases h
  | some t =>
    unfold rangeL at hr
    cases hp : parL s with
    | none => rw [hp] at hr; cases hr
    | some vL =>
      obtain ⟨v, L⟩ := vL
      rw [hp] at hr
      simp only at hr
      cases ht : typeL v with
      | none => rw [ht] at hr; cases hr
      | some ab =>
        unfold parL at hp
        cases hc : cutL 59 s with
        | nil => rw [hc] at hp; cases hp
        | cons x ps =>
          rw [hc] at hp
          simp only at hp
          split at hp
          · cases hp
          · cases hf : parF ps [] with
            | none => rw [hf] at hp; cases hp
            | some K =>
              rw [hf] at hp
              simp only [Option.some.injEq, Prod.mk.injEq] at hp
              obtain ⟨rfl, rfl⟩ := hp
              have hx : textL x = true := by
                refine text_trim15 ?_
                unfold typeL at ht
                split at ht
                · cases ht
                · rename_i h1
                  split at ht
                  · cases ht
                  · rename_i h2
                    split at ht
                    · cases ht
                    · rename_i h3
                      have hB : cutB 47 (trimL x) = true := by simpa using h1
                      rw [cut_join15 hB]
                      refine text_app (tok_text (by simpa using h2)) (text_mk fun c hc => ?_)
                      rcases List.mem_cons.1 hc with rfl | hc
                      · decide
                      · exact text_byte (tok_text (by simpa using h3)) c hc
              have hps := parF_text ps [] K hf
              refine text_mk fun c hcs => ?_
              rcases cut_chars (sep := 59) s.length false s [] (Nat.le_refl _) c (by simpa using hcs) with rfl | ⟨p, hp1, hp2⟩
              · decide
              · rw [show cutF 59 s.length false s [] = x :: ps from hc] at hp1
                rcases List.mem_cons.1 hp1 with rfl | hp1
                · exact text_byte hx c hp2
                · exact text_byte (hps p hp1) c hp2
theorem value_text {n x : ByteArray} (h : valueV n x = true) : textL x.data.toList = true := by
  unfold valueV at h
  split at h
  · rw [Bool.and_eq_true] at h
    obtain ⟨m, hm⟩ := Option.isSome_iff_exists.1 h.1
    exact media_text hm
  · split at h
    · exact tok_text (range_tok (by unfold rangeT; rw [h, Bool.or_true]))
    · split at h
      · rw [Bool.and_eq_true] at h; exact tok_text h.1
      · rw [Bool.and_eq_true, Bool.and_eq_true] at h; exact h.1.2
theorem word_ne (v : List UInt8) : wordW v ≠ [] := by
  unfold wordW
  split
  · rename_i h
    rw [Bool.and_eq_true] at h
    intro e; subst e
    simp [visL] at h
  · unfold quoteL; simp
theorem word_read {v : List UInt8} (h : textL v = true) : readV (wordW v) = some v := by
  unfold wordW
  split
  · rename_i hv
    rw [Bool.and_eq_true] at hv
    unfold readV; rw [if_pos hv.2]
  · have := unq_quote_text h
    unfold quoteL at this ⊢
    rw [read_quo]; exact this
theorem word_piece {sep : UInt8} (hs : plainC sep = false) {v p : List UInt8} (hp : Piece sep p) : Piece sep (wordW v ++ p) := by
  unfold wordW
  split
  · rename_i hv
    rw [Bool.and_eq_true, List.all_eq_true] at hv
    refine Piece.plain (fun c hc => ⟨(plain_ne (hv.2 c hc)).1, fun e => ?_⟩) hp
    have := hv.2 c hc
    rw [e, hs] at this; cases this
  · exact Piece.quote sep v hp
theorem cut_words : ∀ (V : List (List UInt8)) (x : List UInt8), cutL 32 (joinW (x :: V)) = wordW x :: V.map wordW
  | [], x => by
    have := word_piece (sep := 32) rfl (v := x) (Piece.nil 32)
    rw [List.append_nil] at this
    show cutL 32 (wordW x ++ []) = _
    rw [List.append_nil, cut_piece this]; rfl
  | y :: V, x => by
    have h1 := word_piece (sep := 32) rfl (v := x) (Piece.nil 32)
    rw [List.append_nil] at h1
    have e : joinW (x :: y :: V) = wordW x ++ 32 :: joinW (y :: V) := by
      show wordW x ++ (y :: V).flatMap _ = _
      rw [List.flatMap_cons]; rfl
    rw [e, cut_pieces (by decide) _ h1, cut_words V y]; rfl
theorem grp_words : ∀ (V acc : List (List UInt8)), (∀ v ∈ V, textL v = true) → grpF (V.map wordW) acc = some (acc ++ V)
  | [], acc, _ => by simp [grpF]
  | v :: V, acc, h => by
    rw [List.map_cons, grpF_more (word_ne v) (word_read (h v (by simp))), grp_words V _ (fun x hx => h x (by simp [hx]))]
    simp
theorem values_back {V : List (List UInt8)} (h : ∀ v ∈ V, textL v = true) (hne : V ≠ []) : valuesL (writL V) = some V := by
  unfold valuesL writL
  rw [if_neg]
  · have e : ((40 :: (joinW V ++ [41])).drop 1).dropLast = joinW V := by simp
    rw [e, vals_grp _ _ _ (Nat.le_refl _)]
    match V, hne with
    | x :: V, _ =>
      rw [cut_words]
      have := grp_words (x :: V) [] h
      rw [List.map_cons, List.nil_append] at this
      exact this
  · rintro (q | q | q)
    · simp at q; omega
    · simp at q
    · exact q (by rw [show (40 :: (joinW V ++ [41])) = (40 :: joinW V) ++ [41] from rfl]; exact List.getLast?_concat ..)
theorem valid_parts15 {x : AX} (h : validA x = true) : tokL x.1.data.toList = true ∧ lowL x.1.data.toList = x.1.data.toList ∧ 1 ≤ x.2.length ∧ x.2.length ≤ 16 ∧ ∀ v ∈ x.2, textL v.data.toList = true := by
  unfold validA headV at h
  simp only [Bool.and_eq_true, decide_eq_true_eq] at h
  obtain ⟨⟨⟨⟨h1, h2⟩, h3⟩, h4⟩, h5⟩ := h
  refine ⟨h1, h2, h3, h4, fun v hv => ?_⟩
  obtain ⟨i, hi, rfl⟩ := List.mem_iff_getElem.1 hv
  unfold valsV at h5
  have := List.all_eq_true.1 h5 i (List.mem_range.2 hi)
  rw [Bool.and_eq_true, atS_is hi] at this
  exact value_text this.1
theorem mem_back15 {x : AX} (h : validA x = true) : memV (axisL x) = some x := by
  obtain ⟨h1, h2, h3, _, h5⟩ := valid_parts15 h
  have hn : (61 : UInt8) ∉ x.1.data.toList := fun hc => (tok_not (tok_byte h1 61 hc)).2.2.1 rfl
  obtain ⟨e1, e2, e3⟩ := cut_app (c := 61) (a := x.1.data.toList) (b := writL (x.2.map fun v => v.data.toList)) hn
  unfold memV axisL
  rw [e1, e2, e3, if_neg (by rw [h1]; simp), values_back (V := x.2.map fun v => v.data.toList) (fun v hv => by
    obtain ⟨y, hy, rfl⟩ := List.mem_map.1 hv
    exact h5 y hy) (by intro e; rw [List.map_eq_nil_iff] at e; rw [e] at h3; simp at h3)]
  rw [h2]
  obtain ⟨n, V⟩ := x
  simp only [Option.map_some, Option.some.injEq, Prod.mk.injEq]
  refine ⟨(bs_of n).symm, ?_⟩
  rw [List.map_map]
  conv => rhs; rw [← List.map_id V]
  exact List.map_congr_left fun v _ => (bs_of v).symm
theorem join_piece : ∀ (V : List (List UInt8)) {p : List UInt8}, Piece 44 p → Piece 44 (joinW V ++ p)
  | [], p, h => h
  | x :: V, p, h => by
    show Piece 44 ((wordW x ++ V.flatMap fun y => 32 :: wordW y) ++ p)
    rw [List.append_assoc]
    refine word_piece rfl ?_
    have : ∀ (V : List (List UInt8)), Piece 44 ((V.flatMap fun y => 32 :: wordW y) ++ p) := by
      intro V
      induction V with
      | nil => exact h
      | cons y V ih =>
        rw [List.flatMap_cons, List.append_assoc, List.cons_append]
        exact Piece.cons (by decide) (by decide) (word_piece rfl ih)
    exact this V
theorem axis_mem {x : AX} (h : validA x = true) : IsMem (axisL x) := by
  obtain ⟨h1, h2, h3, _, h5⟩ := valid_parts15 h
  have hP : Piece 44 (axisL x) := by
    unfold axisL writL
    refine pc_tok h1 (Piece.cons (by decide) (by decide) (Piece.cons (by decide) (by decide) (join_piece _ (Piece.cons (by decide) (by decide) (Piece.nil 44)))))
  refine ⟨by unfold axisL; simp, ?_, cut_piece hP, hP.2⟩
  have := trim_char [] (axisL x) [] (by simp) (by simp) (fun c r e => first_ok h1 c r e) (fun c r e => by
    have e2 : axisL x = (x.1.data.toList ++ 61 :: 40 :: joinW (x.2.map fun v => v.data.toList)) ++ [41] := by unfold axisL writL; simp
    rw [e2] at e
    have := (List.append_inj' e rfl).2
    have : c = 41 := by simpa using this.symm
    rw [this]; decide)
  simpa using this
theorem mems_back : ∀ (L acc : List AX), (∀ x ∈ L, validA x = true) → memsV (L.map axisL) acc = some (acc ++ L)
  | [], acc, _ => by simp [memsV]
  | x :: L, acc, h => by
    rw [List.map_cons, memsV_more (mem_back15 (h x (by simp))), mems_back L _ (fun y hy => h y (by simp [hy]))]
    simp
theorem writ_len2 {V : List ByteArray} (h1 : V.length ≤ 20) (h2 : ∀ v ∈ V, v.size ≤ 100) : (writL (V.map fun v => v.data.toList)).length ≤ 4100 := by
  have := joinW_len (V := V.map fun v => v.data.toList) (n := 100) (fun v hv => by
    obtain ⟨y, hy, rfl⟩ := List.mem_map.1 hv
    have := h2 y hy
    simpa using this) V.length
  rw [List.take_of_length_le (by simp)] at this
  unfold writL
  rw [List.length_cons, List.length_append]
  simp only [List.length_cons, List.length_nil]
  have : V.length * (2 * 100 + 3) ≤ 20 * 203 := Nat.mul_le_mul h1 (by omega)
  omega
theorem vars_back {L : List AX} {n x : ByteArray} (hv : validX L = true) (hk : keepA L = true) (hn : nmd nmVar (n, x) = true) (hx : fmtV L = x) :
    varsE [(n, x)] = 0 ∧ varsX [(n, x)] = L ∧ x.size ≤ 65000 ∧ ∀ i (hi : i < L.length), fitA L[i] := by
  have hva : ∀ y ∈ L, validA y = true := fun y hy => by
    obtain ⟨i, hi, rfl⟩ := List.mem_iff_getElem.1 hy
    unfold validX at hv
    rw [Bool.and_eq_true] at hv
    have := List.all_eq_true.1 hv.2 i (List.mem_range.2 hi)
    rw [Bool.and_eq_true, atA_is hi] at this
    exact this.1
  obtain ⟨hl, hp⟩ := keepA_parts hk
  have hxl : x.data.toList = joinC (L.map axisL) := by
    rw [← hx]
    unfold fmtV
    rw [if_pos hv]
    unfold axesB joinB
    rw [bs_toList, List.map_map]
    rfl
  have hmem : memL (cutL 44 x.data.toList) = L.map axisL := by
    rw [hxl]
    refine join_mem _ fun m hm => ?_
    obtain ⟨y, hy, rfl⟩ := List.mem_map.1 hm
    exact axis_mem (hva y hy)
  have hall : allL nmVar [(n, x)] = L.map axisL := by
    unfold allL allF getL
    rw [List.filter_cons, if_pos hn]
    simp only [List.filter_nil, List.map_cons, List.map_nil, List.flatMap_cons, List.flatMap_nil, List.append_nil]
    unfold splitL
    rw [hmem, List.take_take, List.take_of_length_le (by rw [List.length_map]; omega)]
  have hany : [(n, x)].any (nmd nmVar) = true := by simp [hn]
  have hms := mems_back L [] hva
  rw [List.nil_append] at hms
  obtain ⟨r1, r2⟩ := vars_ok hany (by rw [hall]; exact hms) hv
  refine ⟨r1, r2, ?_, fun i hi => ?_⟩
  · have h1 := joinC_len13 (L.map axisL) 4201 (fun m hm => by
      obtain ⟨y, hy, rfl⟩ := List.mem_map.1 hm
      obtain ⟨i, hi, rfl⟩ := List.mem_iff_getElem.1 hy
      obtain ⟨a1, a2, a3⟩ := hp i hi
      have := writ_len2 a2 a3
      unfold axisL
      rw [List.length_append, List.length_cons]
      have e : L[i].1.data.toList.length = L[i].1.size := by simp
      omega)
    rw [← hxl, List.length_map] at h1
    have hz : x.data.toList.length = x.size := by simp
    have h2 : L.length * (4201 + 2) ≤ 6 * 4203 := Nat.mul_le_mul hl (Nat.le_refl _)
    omega
  · obtain ⟨a1, a2, a3⟩ := hp i hi
    exact ⟨by omega, by omega, fun v hv => by have := a3 v hv; omega⟩
theorem keep_fit {L : List AX} (hk : keepA L = true) : L.length ≤ 6 ∧ (∀ i (hi : i < L.length), fitA L[i]) := by
  obtain ⟨hl, hp⟩ := keepA_parts hk
  exact ⟨hl, fun i hi => by obtain ⟨a1, a2, a3⟩ := hp i hi; exact ⟨by omega, by omega, fun v hv => by have := a3 v hv; omega⟩⟩
theorem memsV_small : ∀ (ms : List (List UInt8)) (acc X : List AX), memsV ms acc = some X → smallA acc → (∀ m ∈ ms, m.length ≤ 65000) → smallA X
  | [], acc, X, h, ha, _ => by cases h; exact ha
  | m :: ms, acc, X, h, ha, hm => by
    cases hv : memV m with
    | none => rw [memsV_bad hv] at h; cases h
    | some x =>
      rw [memsV_more hv] at h
      exact memsV_small ms _ X h (small_more ha (memV_size hv) (hm m (by simp))) (fun y hy => hm y (by simp [hy]))
theorem vars_small {L : List F} (hv : ∀ x ∈ getL nmVar L, x.size ≤ 65000) : smallA (varsX L) ∧ (varsX L).length ≤ 4 := by
  have hno : smallA [] ∧ ([] : List AX).length ≤ 4 := ⟨fun i hi => absurd hi (by simp), by simp⟩
  unfold varsX
  split
  · exact hno
  · cases hm : memsV (allL nmVar L) [] with
    | none => exact hno
    | some X =>
      simp only
      split
      · rename_i hX
        refine ⟨memsV_small _ [] X hm hno.1 (fun m hmm => by obtain ⟨x, hx, hle⟩ := all_mem hmm; have := hv x hx; omega), ?_⟩
        unfold validX at hX
        simp only [Bool.and_eq_true, decide_eq_true_eq] at hX
        exact hX.1.2
      · exact hno
end
end Go.Proofs.YtodbmdekgfcjpaaGreat.Asc
