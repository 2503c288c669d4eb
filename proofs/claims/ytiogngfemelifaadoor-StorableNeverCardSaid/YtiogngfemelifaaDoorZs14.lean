/- Merged texts: VrySpec3 VrySort VryNam StoMine2 MsgTwo StoLaws StoLaws2 FldSrc LstOpenN. -/
import Derived.Test.YtiogngfemelifaaDoorZs01
import Derived.Test.YtiogngfemelifaaDoorZs03
import Derived.Test.YtiogngfemelifaaDoorZs04
import Derived.Test.YtiogngfemelifaaDoorZs05
import Derived.Test.YtiogngfemelifaaDoorZs06
import Derived.Test.YtiogngfemelifaaDoorZs07
import Derived.Test.YtiogngfemelifaaDoorZs08
import Derived.Test.YtiogngfemelifaaDoorZs09
import Derived.Test.YtiogngfemelifaaDoorZs10
import Derived.Test.YtiogngfemelifaaDoorZs11
import Derived.Test.YtiogngfemelifaaDoorZs12
import Derived.Test.YtiogngfemelifaaDoorZs13
import Derived.BigQuiet
import Derived.Deep.Cut
import Derived.Deep.RegionHeld3
import Derived.Laws.OwnMore
import Derived.Lib.OwnBridge
import Derived.Lib.SlicesCompact
import Derived.LoopTactic
import Derived.Sort.OwnSorted
set_option linter.unusedVariables false
set_option linter.unusedSimpArgs false
set_option maxRecDepth 100000
namespace Go.Proofs.YtiogngfemelifaaDoor.Asc
section
/-- what is kept of the first m places of an ascending row -/
theorem comp_inv {d : Array BL} (hs : ∀ i j : Nat, i ≤ j → j < d.size → d[i]! ≤ d[j]!) : ∀ m : Nat, m ≤ d.size →
    AscU (Lib.compactUpTo d m) ∧ (∀ z, z ∈ Lib.compactUpTo d m ↔ ∃ j, j < m ∧ d[j]! = z) ∧ (∀ z ∈ Lib.compactUpTo d m, ∀ j, m ≤ j + 1 → j < d.size → z ≤ d[j]!)
  | 0, _ => ⟨List.Pairwise.nil, fun z => ⟨fun h => (by cases h), fun ⟨j, hj, _⟩ => (by omega)⟩, fun z h => (by cases h)⟩
  | m + 1, h => by
    obtain ⟨i1, i2, i3⟩ := comp_inv hs m (by omega)
    rw [Lib.compactUpTo_succ]
    by_cases hk : Lib.keeps d m = true
    · rw [if_pos hk]
      have hlt : ∀ z ∈ Lib.compactUpTo d m, z < d[m]! := fun z hz => by
        rcases Nat.eq_zero_or_pos m with rfl | hm
        · cases hz
        · unfold Lib.keeps at hk
          rw [decide_eq_true_eq] at hk
          have hne : d[m]! ≠ d[m - 1]! := hk.resolve_left (by omega)
          have h1 := i3 z hz (m - 1) (by omega) (by omega)
          have h2 := hs (m - 1) m (by omega) (by omega)
          rcases ltB_tri (d[m - 1]!) (d[m]!) with q | q | q
          · rcases ltB_tri z (d[m - 1]!) with p | p | p
            · exact ltB_trans p q
            · rw [p]; exact q
            · exact absurd p (List.not_lt.2 h1)
          · exact absurd q.symm hne
          · exact absurd q (List.not_lt.2 h2)
      refine ⟨?_, fun z => ?_, fun z hz j hj hj2 => ?_⟩
      · unfold AscU
        rw [List.pairwise_append]
        exact ⟨i1, List.pairwise_singleton _ _, fun a ha b hb => by rw [List.mem_singleton.1 hb]; exact hlt a ha⟩
      · rw [List.mem_append, i2, List.mem_singleton]
        constructor
        · rintro (⟨j, hj, e⟩ | rfl)
          · exact ⟨j, by omega, e⟩
          · exact ⟨m, by omega, rfl⟩
        · rintro ⟨j, hj, e⟩
          rcases Nat.lt_or_ge j m with q | q
          · exact .inl ⟨j, q, e⟩
          · have : j = m := by omega
            subst this; exact .inr e.symm
      · rcases List.mem_append.1 hz with q | q
        · exact List.le_trans (i3 z q m (by omega) (by omega)) (hs m j (by omega) hj2)
        · rw [List.mem_singleton.1 q]; exact hs m j (by omega) hj2
    · rw [if_neg hk, List.append_nil]
      have hm : 0 < m := by
        rcases Nat.eq_zero_or_pos m with rfl | hm
        · exact absurd (by unfold Lib.keeps; simp) hk
        · exact hm
      have he : d[m]! = d[m - 1]! := by
        unfold Lib.keeps at hk
        rw [decide_eq_true_eq] at hk
        exact Classical.byContradiction fun e => hk (.inr e)
      refine ⟨i1, fun z => ?_, fun z hz j hj hj2 => i3 z hz j (by omega) hj2⟩
      rw [i2]
      constructor
      · rintro ⟨j, hj, e⟩; exact ⟨j, by omega, e⟩
      · rintro ⟨j, hj, e⟩
        rcases Nat.lt_or_ge j m with q | q
        · exact ⟨j, q, e⟩
        · have : j = m := by omega
          subst this; exact ⟨j - 1, by omega, by rw [← he]; exact e⟩
/-- sorted, then compacted -/
theorem comp_sort (ls : List BL) : AscU (Lib.compact (ls.mergeSort fun x y => decide (x ≤ y))) ∧ ∀ z, z ∈ Lib.compact (ls.mergeSort fun x y => decide (x ≤ y)) ↔ z ∈ ls := by
  have hsort : (ls.mergeSort fun x y => decide (x ≤ y)).Pairwise (fun x y => decide (x ≤ y) = true) :=
    List.pairwise_mergeSort (fun a b c h1 h2 => by simp only [decide_eq_true_eq] at *; exact List.le_trans h1 h2)
      (fun a b => by
        rw [Bool.or_eq_true, decide_eq_true_eq, decide_eq_true_eq]
        exact List.le_total a b) ls
  obtain ⟨ss, hss⟩ : ∃ ss, (ls.mergeSort fun x y => decide (x ≤ y)) = ss := ⟨_, rfl⟩
  have hmem : ∀ z, z ∈ ss ↔ z ∈ ls := fun z => by rw [← hss]; exact (List.mergeSort_perm ls _).mem_iff
  rw [hss] at hsort ⊢
  have hget : ∀ j (hj : j < ss.length), ss.toArray[j]! = ss[j] := fun j hj => by simp [hj]
  have hs : ∀ i j : Nat, i ≤ j → j < ss.toArray.size → ss.toArray[i]! ≤ ss.toArray[j]! := fun i j hij hj => by
    have hj' : j < ss.length := by simpa using hj
    rw [hget i (by omega), hget j hj']
    rcases Nat.lt_or_ge i j with q | q
    · have := List.pairwise_iff_getElem.1 hsort i j (by omega) hj' q
      simpa using this
    · have : i = j := by omega
      subst this; exact List.le_refl _
  obtain ⟨h1, h2, _⟩ := comp_inv hs ss.length (by simp)
  refine ⟨h1, fun z => ?_⟩
  unfold Lib.compact
  rw [h2, ← hmem, List.mem_iff_getElem]
  constructor
  · rintro ⟨j, hj, e⟩; exact ⟨j, hj, by rw [← hget j hj]; exact e⟩
  · rintro ⟨j, hj, e⟩; exact ⟨j, hj, by rw [hget j hj]; exact e⟩
/-- the names in lower case, sorted and compacted, are the names -/
theorem comp_names (ms : List BL) : Lib.compact ((ms.map lowL).mergeSort fun x y => decide (x ≤ y)) = namesU ms := by
  obtain ⟨h1, h2⟩ := comp_sort (ms.map lowL)
  refine ascU_ext h1 (namesU_asc ms) (fun z => ?_)
  rw [h2, namesU_mem, List.mem_map]
end
section
open Go.RowKit Go.Sort
def lowY (ms : List BL) : List ByteArray := ms.map fun m => bs (lowL m)
def srt (ms : List BL) : List BL := (ms.map lowL).mergeSort fun x y => decide (x ≤ y)
theorem lowY_len (ms : List BL) : (lowY ms).length = ms.length := by unfold lowY; rw [List.length_map]
theorem lowY_more {ms : List BL} {k : Nat} (h : k < ms.length) : lowY (ms.take (k + 1)) = lowY (ms.take k) ++ [bs (lowL ms[k])] := by
  unfold lowY
  rw [List.take_succ_eq_append_getElem h, List.map_append]; rfl
theorem lowY_enc (ms : List BL) : (lowY ms).map Value.string = (ms.map lowL).map encStr := by
  unfold lowY
  rw [List.map_map, List.map_map]; rfl
theorem namB_enc (ms : List BL) : (namB ms).map Value.string = (namesU ms).map encStr := by
  unfold namB
  rw [List.map_map]; rfl
theorem srt_len (ms : List BL) : (srt ms).length = ms.length := by unfold srt; rw [List.length_mergeSort, List.length_map]
/-- the list is sorted where it lies -/
def Srt (w : World) (B g m cap : Nat) (ms : List BL) (w' : World) : Prop :=
  Holds encStr w' g 0 (srt ms).toArray ∧ w'.ownsRow B 9 1 (.slice (some ⟨g, 0, none⟩) m cap) m ((srt ms).map encStr) ∧ B ≤ g ∧ m ≤ cap ∧ B ≤ w'.heap.size ∧ Below B w w'
theorem sort19_is {B g cap m : Nat} {ms : List BL} {w : World} (hO : OwnS w B (.slice (some ⟨g, 0, none⟩) m cap) (lowY ms)) (hm : Box (ms.length = m)) (h6 : m ≤ 64) :
    Calls Tryd.prog 22 #[.slice (some ⟨g, 0, none⟩) m cap] w fun e w' => e = .returned (.tuple #[]) ∧ Srt w B g m cap ms w' := by
  have hl : (ms.map lowL).length = m := by rw [List.length_map]; exact hm.out
  have ho : w.ownsRow B 9 1 (.slice (some ⟨g, 0, none⟩) m cap) m ((ms.map lowL).map encStr) := by
    have := hO
    unfold OwnS at this
    rw [lowY_len, hm.out, lowY_enc] at this; exact this
  obtain ⟨g2, cap2, e, hB, hg, hc, hcm, _, hH⟩ := Lib.holds_of_ownsRow ho (by intro e; cases e)
  injection e with e1 e2 e3
  injection e1 with e1
  injection e1 with e1
  subst e1; subst e3
  have h := sort19_any g 0 cap (ms.map lowL) w hH hg (by omega)
  rw [hl] at h
  refine h.mono ?_
  rintro e w' ⟨rfl, nn, os, rfl⟩
  have hsl : (srt ms).length = (ms.map lowL).length := by rw [srt_len, List.length_map]
  rcases ho.2 with ⟨h0, _⟩ | ⟨g', cap', cur, hv, hbase, hb, h1, h2, h3, h4⟩
  · cases h0
  cases hv
  refine ⟨rfl, ?_, ?_, hB, hc, by simp [grow, putRow, mapBlock, Sort.ahead]; omega, ?_⟩
  · exact holds_grow encStr _ os g 0 _ (by simpa [putRow, mapBlock, Sort.ahead] using hg) (holds_putRow encStr _ g 0 _ _ (holds_ahead encStr w nn g 0 _ hH) (by simp))
  · have := ownsRow_sorted (n := nn) (os := os) (ss := ms.map lowL) (ts := srt ms) hsl hbase hb (by rw [hl]; exact h1) h2 h3
    rw [hl] at this; exact this
  · exact (Below.refl _ _).grown (grownBy_sorted _) (by omega) (fun j hj => by cases hj; exact hbase)
theorem compact19_is {B g cap m : Nat} {ms : List BL} {w0 w : World} (hS : Srt w0 B g m cap ms w) (hm : Box (ms.length = m)) (h6 : m ≤ 64) :
    Calls Tryd.prog 23 #[.slice (some ⟨g, 0, none⟩) m cap] w fun e w' => ∃ v, e = .returned v ∧ OwnS w' B v (namB ms) ∧ Below B w0 w' := by
  obtain ⟨hH, ho, hB, hc, hsz, hbel⟩ := hS
  have hl : (srt ms).length = m := by rw [srt_len]; exact hm.out
  have h := compact19_any g 0 cap (srt ms) w hH (by omega) (by omega)
  rw [hl] at h
  refine h.mono ?_
  rintro e w' ⟨rfl, q, rfl⟩
  have hcn : Lib.compact (srt ms) = namesU ms := comp_names ms
  have hle : (namesU ms).length ≤ m := by rw [← hm.out]; exact namesU_len ms
  rw [hcn]
  refine ⟨_, rfl, ?_, Lib.below_putRow hbel hB⟩
  have := Lib.ownsRow_putRow (q := q) (k := (namesU ms).length) (ys := namesU ms ++ List.replicate (m - (namesU ms).length) []) ho (by simp; omega) hle
  rw [List.take_left] at this
  unfold OwnS
  rw [namB_enc]
  have hnl : (namB ms).length = (namesU ms).length := by unfold namB; rw [List.length_map]
  rw [hnl]; exact this
end
section
open Go.RowKit
theorem mTok19_is {s : ByteArray} {b : Bool} {w : World} (hs : s.size ≤ 65000) (h : Box (tokL s.data.toList = b)) :
    Calls Tryd.prog 20 #[.string s] w fun e w' => e = .returned (.bool b) ∧ w = w' :=
  (Token_any s w (by unfold maxLen; omega)).mono fun e w' ⟨h1, h2⟩ => ⟨by rw [h1, h.out], h2⟩
/-- the first k members in lower case -/
def LwRel (ms : List BL) (W : World) (v i : Value) (wr : World) : Prop :=
  ∃ k : Nat, i = .int .i64 k ∧ k ≤ ms.length ∧ (ms.take k).all okM = true ∧ OwnS wr W.heap.size v (lowY (ms.take k)) ∧ Box (Below W.heap.size W wr)
set_option maxHeartbeats 4000000 in
theorem mNames_any (a : Option Addr) (cap : Nat) (L : List F) (w : World) (S : Box (Sm L)) (hv : Box (∀ x ∈ getL nmVry L, x.size ≤ 65000)) (hF : Box (Fs w a L)) :
    Calls Tryd.prog 11 #[.slice a L.length cap] w fun e w' => NamesY w L e w' := by
  obtain ⟨ms, hms⟩ : ∃ ms, allL nmVry L = ms := ⟨_, rfl⟩
  have HMS := box hms
  obtain ⟨m, hm⟩ : ∃ m, ms.length = m := ⟨_, rfl⟩
  have HB : Box ((allB nmVry L).length = m) := box (by unfold allB; rw [List.length_map, hms, hm])
  have HZ := box (allB_mem19 hv.out)
  have hnv : nmVry.size ≤ 65536 := by decide
  by_cases hm0 : m < 64
  · have HM := box hm
    clear hms hm
    go_enter Tryd.func11, Tryd.ntmps11
    go_wp2_with fail
    refine (mAll19_is (nm := nmVry) S hv hnv hF.out HB).mono ?_; rintro e w0 ⟨p, c, rfl, hc, hS, hb⟩
    have B0 := box hb
    have S0 := box hS
    have hs00 := hb.size
    clear hb hS
    go_wp2_with fail
    refine (complete_yes hm0).mono ?_; rintro e w0 ⟨rfl, rfl⟩
    go_wp2
    go_loopw [5, 15] (fun v i wr => LwRel ms w0 v i wr) (fun _ i _ => m - (intOf i).toNat)
    case atStart => exact ⟨0, rfl, Nat.zero_le _, rfl, OwnS.nil _ _, box (Below.refl _ _)⟩
    case round =>
      obtain ⟨k, rfl, hk, hall, hO, B1⟩ := hrel
      obtain ⟨ws, rfl⟩ : ∃ ws, ws = wr := ⟨_, rfl⟩
      have HA := box hall
      have O := box hO
      have hs1 := B1.out.size
      rw [HM.out] at hk
      have HL6 : Box ((lowY (ms.take k)).length ≤ 65536) := box (by rw [lowY_len, List.length_take]; omega)
      by_cases hkm : k < m
      · have hki : (k : Int) < (m : Int) := by omega
        have hk0 : (0 : Int) ≤ (k : Int) := by omega
        have HKL := box (show k < ms.length by rw [HM.out]; exact hkm)
        obtain ⟨x, hx⟩ : ∃ x, bs (ms[k]'HKL.out) = x := ⟨_, rfl⟩
        have hkb : k < (allB nmVry L).length := by rw [HB.out]; exact hkm
        have hx2 : (allB nmVry L)[k] = x := by
          rw [← hx]
          simp only [allB, List.getElem_map]
          congr 1
          simp only [HMS.out]
        obtain ⟨g, off, rfl, c0⟩ := (S0.out.below B1.out) k hkb
        rw [hx2] at c0
        have hxz : x.size ≤ 65000 := by rw [← hx2]; exact HZ.out _ (List.getElem_mem hkb)
        obtain ⟨tb, htb⟩ : ∃ tb, tokL x.data.toList = tb := ⟨_, rfl⟩
        have HTB := box htb
        obtain ⟨sb, hsb⟩ : ∃ sb, decide (x.data.toList = [42]) = sb := ⟨_, rfl⟩
        have hst := star19_is x sb hsb
        have HOK : Box (okM (ms[k]'HKL.out) = (tb && !sb)) := box (by rw [← htb, ← hsb, ← hx]; unfold okM; rw [bs_toList, decide_not])
        clear hsb htb hall hO
        cases sb with
        | true =>
          have HNO : Box (okU (allL nmVry L) = false) := box (by rw [HMS.out]; exact okU_no HKL.out (by rw [HOK.out]; cases tb <;> rfl))
          clear hx hx2 hkb
          go_wp2
          go_ret2
          exact ⟨_, by unfold namesO; rw [HNO.out]; rfl, by rw [nmsB_no HNO.out]; exact OwnS.nil _ _, B0.out.trans (B1.out.mono hs00)⟩
        | false =>
          cases tb with
          | false =>
            have HNO : Box (okU (allL nmVry L) = false) := box (by rw [HMS.out]; exact okU_no HKL.out (by rw [HOK.out]; rfl))
            clear hx hx2 hkb
            go_wp2_with fail
            refine (mTok19_is hxz HTB).mono ?_; rintro e w2 ⟨rfl, rfl⟩
            go_wp2
            go_ret2
            exact ⟨_, by unfold namesO; rw [HNO.out]; rfl, by rw [nmsB_no HNO.out]; exact OwnS.nil _ _, B0.out.trans (B1.out.mono hs00)⟩
          | true =>
            have HOKK : Box ((ms.take (k + 1)).all okM = true) := box (okM_more HKL.out HA.out (by rw [HOK.out]; rfl))
            obtain ⟨y, hy⟩ : ∃ y, bs (lowL x.data.toList) = y := ⟨_, rfl⟩
            have HY := box hy
            have HMORE : Box (lowY (ms.take (k + 1)) = lowY (ms.take k) ++ [y]) := box (by rw [lowY_more HKL.out, ← hy, ← hx]; rfl)
            clear hx hx2 hkb hy
            go_wp2_with fail
            refine (mTok19_is hxz HTB).mono ?_; rintro e w2 ⟨rfl, rfl⟩
            go_wp2_with fail
            refine (mLow19_is (by omega) HY).mono ?_; rintro e w3 ⟨rfl, hb3⟩
            have B3 := box (B1.out.trans (hb3.mono hs1))
            have O3 := box (own_below O.out hb3)
            have hs3 := B3.out.size
            clear hb3 c0
            go_wp2_with (at_builtin; refine wpList_append_str _ rfl (.tmp 26) (.tmp 29) rfl w0.heap.size _ (lowY (ms.take k)) rfl ?a1 _ _ rfl y ?b1 ?c1 ?d1 ?_)
            case a1 => exact own_below O3.out (below_new _ _)
            case b1 => go_simp
            case c1 => exact HL6.out
            case d1 => simp; omega
            intro v2 w4 hO2 hb2
            have O4 := box hO2
            have B4 := box ((B3.out.alloc B3.out.size _).trans hb2)
            clear hO2 hb2
            go_wp2
            go_roundw
            case rel => exact ⟨k + 1, by go_num, by rw [HM.out]; omega, HOKK.out, by rw [HMORE.out]; exact O4.out, B4⟩
            case measure => simp [intOf]; omega
      · have hki : ¬ (k : Int) < (m : Int) := by omega
        have HE : Box (lowY (ms.take k) = lowY ms) := box (by rw [List.take_of_length_le (by rw [HM.out]; omega)])
        have HYES : Box (okU (allL nmVry L) = true) := box (by rw [HMS.out]; exact okU_yes (by rw [HM.out]; exact hm0) (by rw [HM.out]; omega) HA.out)
        have HNB : Box (nmsB L = namB ms) := box (by rw [nmsB_yes HYES.out, HMS.out])
        rw [HE.out] at hO
        have OE := box hO
        clear O hO HL6 hall
        have hlm : (lowY ms).length = m := by rw [lowY_len]; exact HM.out
        by_cases hmz : m = 0
        · subst hmz
          obtain ⟨oa, oc, rfl, _, _⟩ := OE.out.ss
          rw [hlm] at OE ⊢
          have HN0 : Box (nmsB L = []) := box (by
            rw [HNB.out]
            have := namB_len ms
            exact List.length_eq_zero_iff.1 (by rw [HM.out] at this; omega))
          have HL0 : Box (lowY ms = []) := box (List.length_eq_zero_iff.1 hlm)
          have ON := box (show OwnS ws w0.heap.size (.slice oa 0 oc) (nmsB L) from by rw [HN0.out, ← HL0.out]; exact OE.out)
          clear hlm
          go_wp2_with fail
          refine (sort19_none oa oc _).mono ?_; rintro e w2 ⟨rfl, rfl⟩
          go_wp2_with fail
          refine (compact19_none oa oc _).mono ?_; rintro e w3 ⟨rfl, rfl⟩
          go_wp2
          go_ret2
          exact ⟨_, by unfold namesO; rw [HYES.out]; rfl, Go.Joins.ownsRow_le ON.out hs00, B0.out.trans (B1.out.mono hs00)⟩
        · rcases OE.out.2 with ⟨hv0, h0⟩ | ⟨g, oc, cur, rfl, hbase, hgb, _⟩
          · exact absurd (hlm.symm.trans h0) hmz
          rw [hlm] at OE ⊢
          clear hgb hlm
          go_wp2_with fail
          refine (sort19_is OE.out HM (by omega)).mono ?_; rintro e w2 ⟨rfl, hS2⟩
          have S2 := box hS2
          clear hS2
          go_wp2_with fail
          refine (compact19_is S2.out HM (by omega)).mono ?_; rintro e w3 ⟨v3, rfl, hO3, hb3⟩
          have ON := box (show OwnS w3 w0.heap.size v3 (nmsB L) from by rw [HNB.out]; exact hO3)
          have B3 := box (B1.out.trans hb3)
          clear hO3 hb3
          go_wp2
          go_ret2
          exact ⟨_, by unfold namesO; rw [HYES.out]; rfl, Go.Joins.ownsRow_le ON.out hs00, B0.out.trans (B3.out.mono hs00)⟩
  · have HNO : Box (okU (allL nmVry L) = false) := box (okU_long (by rw [hms, hm]; exact hm0))
    clear hms hm
    go_enter Tryd.func11, Tryd.ntmps11
    go_wp2_with fail
    refine (mAll19_is (nm := nmVry) S hv hnv hF.out HB).mono ?_; rintro e w0 ⟨p, c, rfl, hc, hS, hb⟩
    have B0 := box hb
    clear hb hS
    go_wp2_with fail
    refine (complete_no hm0).mono ?_; rintro e w0 ⟨rfl, rfl⟩
    go_wp2
    go_ret2
    exact ⟨_, by unfold namesO; rw [HNO.out]; rfl, by rw [nmsB_no HNO.out]; exact OwnS.nil _ _, B0.out⟩
end
section
open Go.RowKit
theorem mReqC24_is {a : Option Addr} {cap n : Nat} {L : List F} {dns d1 d2 d3 d4 d5 d6 : Bool} {d7 d8 d9 d10 : Int} {w : World} (S : Box (Sm L)) (hv : Box (∀ nm, ∀ x ∈ getL nm L, x.size ≤ 65000)) (hF : Box (Fs w a L)) (HC : Box (ctQ L = ⟨dns, d1, d2, d3, d4, d5, d6, d7, d8, d9, d10⟩)) (hn : Box (L.length = n)) :
    Calls Tryd.prog 10 #[.slice a n cap] w fun e w' => e = .returned (.agg #[.bool dns, .bool d1, .bool d2, .bool d3, .bool d4, .bool d5, .bool d6, .int .i64 d7, .int .i64 d8, .int .i64 d9, .int .i64 d10]) ∧ Below w.heap.size w w' := by
  have h := mReqC_any a cap L w S hv hF _ HC
  rw [hn.out] at h; exact h
theorem mResp24_is {a : Option Addr} {cap n : Nat} {L : List F} {dns d1 d2 d3 d4 d5 d6 : Bool} {d7 d8 d9 d10 : Int} {w : World} (S : Box (Sm L)) (hv : Box (∀ nm, ∀ x ∈ getL nm L, x.size ≤ 65000)) (hF : Box (Fs w a L)) (HC : Box (respC (allL ccN L) = ⟨dns, d1, d2, d3, d4, d5, d6, d7, d8, d9, d10⟩)) (hn : Box (L.length = n)) :
    Calls Tryd.prog 9 #[.slice a n cap] w fun e w' => e = .returned (.agg #[.bool dns, .bool d1, .bool d2, .bool d3, .bool d4, .bool d5, .bool d6, .int .i64 d7, .int .i64 d8, .int .i64 d9, .int .i64 d10]) ∧ Below w.heap.size w w' := by
  have h := mResp_any a cap L w S (box (hv.out ccN)) hF _ HC
  rw [hn.out] at h; exact h
theorem mNames24_is {a : Option Addr} {cap n : Nat} {L : List F} {o : Bool} {w : World} (S : Box (Sm L)) (hv : Box (∀ nm, ∀ x ∈ getL nm L, x.size ≤ 65000)) (hF : Box (Fs w a L)) (HO : Box (namesO L = o)) (hn : Box (L.length = n)) :
    Calls Tryd.prog 11 #[.slice a n cap] w fun e w' => (∃ p k c, e = .returned (.tuple #[.slice p k c, .bool o])) ∧ Below w.heap.size w w' := by
  have h := mNames_any a cap L w S (box (hv.out nmVry)) hF
  rw [hn.out] at h
  refine h.mono fun e w' ⟨v, h1, h2, h3⟩ => ?_
  obtain ⟨p, c, rfl, _, _⟩ := h2.ss
  exact ⟨⟨p, _, c, by rw [h1, HO.out]⟩, h3⟩
theorem mHas24_is {a : Option Addr} {cap n : Nat} {L : List F} {nm : ByteArray} {q : Bool} {w : World} (S : Box (Sm L)) (M : nm.size ≤ 65536) (hF : Box (Fs w a L)) (h : Box (L.any (nmd nm) = q)) (hn : Box (L.length = n)) :
    Calls Tryd.prog 12 #[.slice a n cap, .string nm] w fun e w' => e = .returned (.bool q) ∧ Below w.heap.size w w' := by
  have h := has22_is (cap := cap) S M hF h
  rw [hn.out] at h; exact h
theorem mLater24_is {a : Option Addr} {cap n : Nat} {L : List F} {v : Bool} {w : World} (S : Box (Sm L)) (hv : Box (∀ nm, ∀ x ∈ getL nm L, x.size ≤ 65000)) (hF : Box (Fs w a L)) (hW : Box (Tabs w)) (HV : Box ((decide (0 < lifS L) || valT L) = v)) (hn : Box (L.length = n)) :
    Calls Tryd.prog 14 #[.slice a n cap] w fun e w' => e = .returned (.bool v) ∧ Below w.heap.size w w' := by
  have h := mLater_any a cap L v w S hv hF hW HV
  rw [hn.out] at h; exact h
/-- the method or the status forbids it -/
theorem mStor_no (m t : ByteArray) (n : Int) (a : Option Addr) (cap nq : Nat) (b : ByteArray) (k s : Int) (r : ByteArray) (a' : Option Addr) (cap' nl : Nat) (b' : ByteArray) (w : World)
    (g sv : Bool) (HG : (m.toList == [71, 69, 84]) = g) (HS : (s == 200) = sv) (h : (g && sv) = false) :
    Calls Tryd.prog 6 #[.agg #[.string m, .string t, .int .i64 n, .slice a nq cap, .string b], .agg #[.int .i64 k, .int .i64 s, .string r, .slice a' nl cap', .string b']] w fun e w' => e = .returned (.bool false) ∧ Below w.heap.size w w' := by
  have B0 : Box (Below w.heap.size w ((w.alloc (.cells #[.string m, .string t, .int .i64 n, .slice a nq cap, .string b] 24)).alloc (.cells #[.int .i64 k, .int .i64 s, .string r, .slice a' nl cap', .string b'] 26))) := box ((below_new w _).trans ((below_new _ _).mono (size_more _ _)))
  have hs2 : (s != 200) = !sv := by rw [← HS]; rfl
  cases g
  · clear h
    go_enter Tryd.func6, Tryd.ntmps6
    go_wp2
    go_ret
    exact ⟨rfl, B0.out⟩
  · rw [Bool.true_and] at h
    subst h
    go_enter Tryd.func6, Tryd.ntmps6
    go_wp2
    go_ret
    exact ⟨rfl, B0.out⟩
set_option maxHeartbeats 8000000 in
theorem mStor_yes (m t : ByteArray) (n : Int) (a : Option Addr) (cap nq : Nat) (Q : List F) (b : ByteArray) (k s : Int) (r : ByteArray) (a' : Option Addr) (cap' nl : Nat) (L : List F) (b' : ByteArray) (w : World)
    (SQ : Box (Sm Q)) (hvQ : Box (∀ nm, ∀ x ∈ getL nm Q, x.size ≤ 65000)) (hQ : Box (Fs w a Q)) (HNQ : Box (Q.length = nq)) (SL : Box (Sm L)) (hvL : Box (∀ nm, ∀ x ∈ getL nm L, x.size ≤ 65000)) (hL : Box (Fs w a' L)) (HNL : Box (L.length = nl)) (hT : Box (Tabs w))
    (d c : CT) (HD : Box (ctQ Q = d)) (HC : Box (respC (allL ccN L) = c)) (o rg au lt v : Bool) (HG : (m.toList == [71, 69, 84]) = true) (HS : (s == 200) = true) (HO : Box (namesO L = o)) (HR : Box (Q.any (nmd rgN) = rg)) (HA : Box (Q.any (nmd auN) = au)) (HL : Box ((decide (0 < lifS L) || valT L) = lt))
    (HV : Box (storB true true d.ns c o rg au lt false = v)) :
    Calls Tryd.prog 6 #[.agg #[.string m, .string t, .int .i64 n, .slice a nq cap, .string b], .agg #[.int .i64 k, .int .i64 s, .string r, .slice a' nl cap', .string b']] w fun e w' => e = .returned (.bool v) ∧ Below w.heap.size w w' := by
  obtain ⟨w0, hW0⟩ : ∃ w0, (w.alloc (.cells #[.string m, .string t, .int .i64 n, .slice a nq cap, .string b] 24)).alloc (.cells #[.int .i64 k, .int .i64 s, .string r, .slice a' nl cap', .string b'] 26) = w0 := ⟨_, rfl⟩
  have HW := box hW0
  have B0 : Box (Below w.heap.size w w0) := box (by rw [← hW0]; exact (below_new w _).trans ((below_new _ _).mono (size_more _ _)))
  have CQ : Box (C5 w.heap.size (.string m) (.string t) (.int .i64 n) (.slice a nq cap) (.string b) w0) := box (by rw [← hW0]; exact (C5.new _ _ _ _ _ w _).next (below_new _ _))
  have CR : Box (C5 (w.heap.size + 1) (.int .i64 k) (.int .i64 s) (.string r) (.slice a' nl cap') (.string b') w0) := box (by
    have h := C5.new (.int .i64 k) (.int .i64 s) (.string r) (.slice a' nl cap') (.string b') (w.alloc (.cells #[.string m, .string t, .int .i64 n, .slice a nq cap, .string b] 24)) 26
    rw [show (w.alloc (.cells #[.string m, .string t, .int .i64 n, .slice a nq cap, .string b] 24)).heap.size = w.heap.size + 1 from by simp] at h
    rw [← hW0]; exact h)
  have FQ0 := box (hQ.out.below B0.out)
  have FL0 := box (hL.out.below B0.out)
  have W0 := box (hT.out.below B0.out)
  obtain ⟨dns, d1, d2, d3, d4, d5, d6, d7, d8, d9, d10⟩ := d
  obtain ⟨cns, cnc, cmr, cpr, cpv, cpb, coc, cma, csm, cmf, cms⟩ := c
  obtain ⟨sb, hsm⟩ : ∃ sb, (csm == -1) = sb := ⟨_, rfl⟩
  obtain ⟨an, han⟩ : ∃ an, (cmr || cpb || (csm != -1)) = an := ⟨_, rfl⟩
  have HAN := box han
  have hs2 : (s != 200) = false := by rw [bne, HS]; rfl
  have q3 := CQ.out.1.2.2.2.1
  clear hW0 han
  · skip
    go_enter Tryd.func6, Tryd.ntmps6
    go_wp2_with fail
    rw [HW.out]
    refine (mResp24_is SL hvL FL0 HC HNL).mono ?_; rintro e w1 ⟨rfl, hb1⟩
    have N1 := box (hb1.alloc hb1.size (.cells #[.bool cns, .bool cnc, .bool cmr, .bool cpr, .bool cpv, .bool cpb, .bool coc, .int .i64 cma, .int .i64 csm, .int .i64 cmf, .int .i64 cms] 36))
    have B1 := box (B0.out.trans (N1.out.mono B0.out.size))
    have CQ1 := box (CQ.out.next N1.out)
    have CR1 := box (CR.out.next N1.out)
    have CC1 : Box (Ct w1.heap.size ⟨cns, cnc, cmr, cpr, cpv, cpb, coc, cma, csm, cmf, cms⟩ (w1.alloc (.cells #[.bool cns, .bool cnc, .bool cmr, .bool cpr, .bool cpv, .bool cpb, .bool coc, .int .i64 cma, .int .i64 csm, .int .i64 cmf, .int .i64 cms] 36))) := box (Ct.new ⟨cns, cnc, cmr, cpr, cpv, cpb, coc, cma, csm, cmf, cms⟩ w1 36)
    have q31 := (N1.out.cell (cell_lt q3)).trans q3
    clear hb1
    go_wp2_with fail
    refine (mReqC24_is SQ hvQ (box (FQ0.out.below N1.out)) HD HNQ).mono ?_; rintro e w3 ⟨rfl, hb3⟩
    have rf := run_field_ns dns d1 d2 d3 d4 d5 d6 d7 d8 d9 d10 w3
    have N3 := box (N1.out.trans (hb3.mono N1.out.size))
    have B3 := box (B0.out.trans (N3.out.mono B0.out.size))
    have CQ3 := box (CQ1.out.next hb3)
    have CR3 := box (CR1.out.next hb3)
    have CC3 := box (CC1.out.next hb3)
    clear hb3 q31
    obtain ⟨⟨m0, m1, m2, m3, m4⟩, _⟩ := CQ3.out
    obtain ⟨⟨n0, n1, n2, n3, n4⟩, _⟩ := CR3.out
    obtain ⟨⟨e0, e1, e2, e3, e4, e5, e6, e7, e8, e9, e10⟩, _⟩ := (show Ct w1.heap.size ⟨cns, cnc, cmr, cpr, cpv, cpb, coc, cma, csm, cmf, cms⟩ w3 from CC3.out)
    simp only at e0 e1 e2 e3 e4 e5 e6 e7 e8 e9 e10
    cases dns with
    | false =>
      cases cns with
      | false =>
        cases cpv with
        | false =>
          go_wp2_with fail
          refine (mNames24_is SL hvL (box (FL0.out.below N3.out)) HO HNL).mono ?_; rintro e w4 ⟨⟨p4, k4, c4, rfl⟩, hb4⟩
          have N4 := box (N3.out.trans (hb4.mono N3.out.size))
          have B4 := box (B0.out.trans (N4.out.mono B0.out.size))
          have CQ4 := box (CQ3.out.next hb4)
          have CR4 := box (CR3.out.next hb4)
          have CC4 := box (CC3.out.next hb4)
          clear hb4 m0 m1 m2 m3 m4 n0 n1 n2 n3 n4 e0 e1 e2 e3 e4 e5 e6 e7 e8 e9 e10
          obtain ⟨⟨m0, m1, m2, m3, m4⟩, _⟩ := CQ4.out
          obtain ⟨⟨n0, n1, n2, n3, n4⟩, _⟩ := CR4.out
          obtain ⟨⟨e0, e1, e2, e3, e4, e5, e6, e7, e8, e9, e10⟩, _⟩ := (show Ct w1.heap.size ⟨false, cnc, cmr, cpr, false, cpb, coc, cma, csm, cmf, cms⟩ w4 from CC4.out)
          simp only at e0 e1 e2 e3 e4 e5 e6 e7 e8 e9 e10
          cases o with
          | false =>
            go_wp2
            go_ret
            exact ⟨ret_bool (by rw [← HV.out]; simp [storB, anyC, bne, hsm]), B4.out⟩
          | true =>
            go_wp2_with fail
            refine (mHas24_is (nm := rgN) SQ (by decide) (box (FQ0.out.below N4.out)) HR HNQ).mono ?_; rintro e w5 ⟨rfl, hb5⟩
            have N5 := box (N4.out.trans (hb5.mono N4.out.size))
            have B5 := box (B0.out.trans (N5.out.mono B0.out.size))
            have CQ5 := box (CQ4.out.next hb5)
            have CR5 := box (CR4.out.next hb5)
            have CC5 := box (CC4.out.next hb5)
            clear hb5 m0 m1 m2 m3 m4 n0 n1 n2 n3 n4 e0 e1 e2 e3 e4 e5 e6 e7 e8 e9 e10
            obtain ⟨⟨m0, m1, m2, m3, m4⟩, _⟩ := CQ5.out
            obtain ⟨⟨n0, n1, n2, n3, n4⟩, _⟩ := CR5.out
            obtain ⟨⟨e0, e1, e2, e3, e4, e5, e6, e7, e8, e9, e10⟩, _⟩ := (show Ct w1.heap.size ⟨false, cnc, cmr, cpr, false, cpb, coc, cma, csm, cmf, cms⟩ w5 from CC5.out)
            simp only at e0 e1 e2 e3 e4 e5 e6 e7 e8 e9 e10
            cases rg with
            | false =>
              go_wp2_with fail
              refine (mHas24_is (nm := auN) SQ (by decide) (box (FQ0.out.below N5.out)) HA HNQ).mono ?_; rintro e w6 ⟨rfl, hb6⟩
              have N6 := box (N5.out.trans (hb6.mono N5.out.size))
              have B6 := box (B0.out.trans (N6.out.mono B0.out.size))
              have CQ6 := box (CQ5.out.next hb6)
              have CR6 := box (CR5.out.next hb6)
              have CC6 := box (CC5.out.next hb6)
              clear hb6 m0 m1 m2 m3 m4 n0 n1 n2 n3 n4 e0 e1 e2 e3 e4 e5 e6 e7 e8 e9 e10
              obtain ⟨⟨m0, m1, m2, m3, m4⟩, _⟩ := CQ6.out
              obtain ⟨⟨n0, n1, n2, n3, n4⟩, _⟩ := CR6.out
              obtain ⟨⟨e0, e1, e2, e3, e4, e5, e6, e7, e8, e9, e10⟩, _⟩ := (show Ct w1.heap.size ⟨false, cnc, cmr, cpr, false, cpb, coc, cma, csm, cmf, cms⟩ w6 from CC6.out)
              simp only at e0 e1 e2 e3 e4 e5 e6 e7 e8 e9 e10
              cases au with
              | false =>
                go_wp2_with fail
                refine (mLater24_is SL hvL (box (FL0.out.below N6.out)) (box (W0.out.below N6.out)) HL HNL).mono ?_; rintro e w9 ⟨rfl, hb9⟩
                have B9 := box (B6.out.trans (hb9.mono B6.out.size))
                clear hb9
                go_wp2
                go_ret
                exact ⟨ret_bool (by rw [← HV.out]; simp [storB, anyC, bne, hsm]), B9.out⟩
              | true =>
                go_wp2_with fail
                refine (mAny24_is HAN).mono ?_; rintro e w7 ⟨rfl, hb7⟩
                have N7 := box (N6.out.trans (hb7.mono N6.out.size))
                have B7 := box (B0.out.trans (N7.out.mono B0.out.size))
                have CQ7 := box (CQ6.out.next hb7)
                have CR7 := box (CR6.out.next hb7)
                have CC7 := box (CC6.out.next hb7)
                clear hb7 m0 m1 m2 m3 m4 n0 n1 n2 n3 n4 e0 e1 e2 e3 e4 e5 e6 e7 e8 e9 e10
                obtain ⟨⟨m0, m1, m2, m3, m4⟩, _⟩ := CQ7.out
                obtain ⟨⟨n0, n1, n2, n3, n4⟩, _⟩ := CR7.out
                obtain ⟨⟨e0, e1, e2, e3, e4, e5, e6, e7, e8, e9, e10⟩, _⟩ := (show Ct w1.heap.size ⟨false, cnc, cmr, cpr, false, cpb, coc, cma, csm, cmf, cms⟩ w7 from CC7.out)
                simp only at e0 e1 e2 e3 e4 e5 e6 e7 e8 e9 e10
                cases an with
                | false =>
                  go_wp2
                  go_ret
                  exact ⟨ret_bool (by rw [← HV.out]; simp only [storB, anyC, HAN.out]; simp), B7.out⟩
                | true =>
                  go_wp2_with fail
                  refine (mLater24_is SL hvL (box (FL0.out.below N7.out)) (box (W0.out.below N7.out)) HL HNL).mono ?_; rintro e w9 ⟨rfl, hb9⟩
                  have B9 := box (B7.out.trans (hb9.mono B7.out.size))
                  clear hb9
                  go_wp2
                  go_ret
                  exact ⟨ret_bool (by rw [← HV.out]; simp only [storB, anyC, HAN.out]; simp), B9.out⟩
            | true =>
              go_wp2
              go_ret
              exact ⟨ret_bool (by rw [← HV.out]; simp [storB, anyC, bne, hsm]), B5.out⟩
        | true =>
          go_wp2
          go_ret
          exact ⟨ret_bool (by rw [← HV.out]; simp [storB, anyC, bne, hsm]), B3.out⟩
      | true =>
        go_wp2
        go_ret
        exact ⟨ret_bool (by rw [← HV.out]; simp [storB, anyC, bne, hsm]), B3.out⟩
    | true =>
      go_wp2
      go_ret
      exact ⟨ret_bool (by rw [← HV.out]; simp [storB, anyC, bne, hsm]), B3.out⟩
end
section
open Go.RowKit
/-- two structs of five cells lie one behind the other, and two lists of fields -/
structure Two (w : World) (c0 c1 c2 c3 c4 d0 d1 d2 d3 d4 : Value) (a a' : Option Addr) (K L : List F) (w' : World) : Prop where
  c : C5 w.heap.size c0 c1 c2 c3 c4 w'
  d : C5 (w.heap.size + 1) d0 d1 d2 d3 d4 w'
  f : Fs w' a K
  g : Fs w' a' L
  b : Below w.heap.size w w'
section
variable {w w' w'' : World} {c0 c1 c2 c3 c4 d0 d1 d2 d3 d4 : Value} {a a' : Option Addr} {K L : List F}
theorem Two.next (h : Two w c0 c1 c2 c3 c4 d0 d1 d2 d3 d4 a a' K L w') (hb : Below w'.heap.size w' w'') : Two w c0 c1 c2 c3 c4 d0 d1 d2 d3 d4 a a' K L w'' :=
  ⟨h.c.next hb, h.d.next hb, h.f.below hb, h.g.below hb, h.b.trans (hb.mono h.b.size)⟩
theorem Two.drewN {n : Nat} (h : Two w c0 c1 c2 c3 c4 d0 d1 d2 d3 d4 a a' K L w') : Two w c0 c1 c2 c3 c4 d0 d1 d2 d3 d4 a a' K L (w'.drewN n) := h.next (below_drewN _ _)
theorem Two.new (t1 t2 : TypeId) (hF : Fs w a K) (hG : Fs w a' L) : Two w c0 c1 c2 c3 c4 d0 d1 d2 d3 d4 a a' K L ((w.alloc (.cells #[c0, c1, c2, c3, c4] t1)).alloc (.cells #[d0, d1, d2, d3, d4] t2)) := by
  have b1 := below_new w (.cells #[c0, c1, c2, c3, c4] t1)
  have b2 := below_new (w.alloc (.cells #[c0, c1, c2, c3, c4] t1)) (.cells #[d0, d1, d2, d3, d4] t2)
  have D := C5.new d0 d1 d2 d3 d4 (w.alloc (.cells #[c0, c1, c2, c3, c4] t1)) t2
  rw [show (w.alloc (.cells #[c0, c1, c2, c3, c4] t1)).heap.size = w.heap.size + 1 from by simp] at D
  exact ⟨(C5.new c0 c1 c2 c3 c4 w t1).next b2, D, (hF.below b1).below b2, (hG.below b1).below b2, b1.trans (b2.mono b1.size)⟩
theorem Two.cells (h : Two w c0 c1 c2 c3 c4 d0 d1 d2 d3 d4 a a' K L w') : w'.cell? ⟨w.heap.size, 0, none⟩ = some c0 ∧ w'.cell? ⟨w.heap.size, 1, none⟩ = some c1 ∧ w'.cell? ⟨w.heap.size, 2, none⟩ = some c2 ∧ w'.cell? ⟨w.heap.size, 3, none⟩ = some c3 ∧ w'.cell? ⟨w.heap.size, 4, none⟩ = some c4 ∧ w'.cell? ⟨w.heap.size + 1, 0, none⟩ = some d0 ∧ w'.cell? ⟨w.heap.size + 1, 1, none⟩ = some d1 ∧ w'.cell? ⟨w.heap.size + 1, 2, none⟩ = some d2 ∧ w'.cell? ⟨w.heap.size + 1, 3, none⟩ = some d3 ∧ w'.cell? ⟨w.heap.size + 1, 4, none⟩ = some d4 :=
  ⟨h.c.1.1, h.c.1.2.1, h.c.1.2.2.1, h.c.1.2.2.2.1, h.c.1.2.2.2.2, h.d.1.1, h.d.1.2.1, h.d.1.2.2.1, h.d.1.2.2.2.1, h.d.1.2.2.2.2⟩
end
end
section
open Go.RowKit
theorem mStor_is {m t : ByteArray} {n : Int} {a : Option Addr} {cap nq : Nat} {Q : List F} {b : ByteArray} {k s : Int} {r : ByteArray} {a' : Option Addr} {cap' nl : Nat} {L : List F} {b' : ByteArray} {w : World} {v : Bool}
    (SQ : Box (Sm Q)) (hvQ : Box (∀ nm, ∀ x ∈ getL nm Q, x.size ≤ 65000)) (hQ : Fs w a Q) (HNQ : Box (Q.length = nq)) (SL : Box (Sm L)) (hvL : Box (∀ nm, ∀ x ∈ getL nm L, x.size ≤ 65000)) (hL : Fs w a' L) (HNL : Box (L.length = nl)) (hT : Tabs w) (HV : Box (storV m.data.toList s Q L = v)) :
    Calls Tryd.prog 6 #[.agg #[.string m, .string t, .int .i64 n, .slice a nq cap, .string b], .agg #[.int .i64 k, .int .i64 s, .string r, .slice a' nl cap', .string b']] w fun e w' => e = .returned (.bool v) ∧ Below w.heap.size w w' := by
  have hv := HV.out
  unfold storV at hv
  rw [show m.data.toList = m.toList from (by rw [toList_data])] at hv
  rcases hg : (m.toList == [71, 69, 84]) with _ | _
  · refine (mStor_no m t n a cap nq b k s r a' cap' nl b' w _ _ hg rfl rfl).mono fun e w' ⟨h1, h2⟩ => ⟨?_, h2⟩
    rw [h1, ← hv, hg]; simp [storB]
  · rcases hs : (s == 200) with _ | _
    · refine (mStor_no m t n a cap nq b k s r a' cap' nl b' w _ _ hg hs rfl).mono fun e w' ⟨h1, h2⟩ => ⟨?_, h2⟩
      rw [h1, ← hv, hg, hs]; simp [storB]
    · refine mStor_yes m t n a cap nq Q b k s r a' cap' nl L b' w SQ hvQ (box hQ) HNQ SL hvL (box hL) HNL (box hT) _ _ (box rfl) (box rfl) _ _ _ _ v hg hs (box rfl) (box rfl) (box rfl) (box rfl) (box ?_)
      rw [← hv, hg, hs]; simp [storB]
def ma24 : ByteArray := ⟨#[109, 97, 120, 45, 97, 103, 101, 61, 49]⟩
def ge24 : ByteArray := ⟨#[71, 69, 84]⟩
def aw24L : List F := [(ccN, ma24)]
theorem aw24_yes : storV ge24.data.toList 200 [] aw24L = true := by
  have h1 : respC (allL ccN aw24L) = ⟨false, false, false, false, false, false, false, 1, -1, -1, -1⟩ := by
    rw [show allL ccN aw24L = [[109, 97, 120, 45, 97, 103, 101, 61, 49]] from by decide +kernel]
    decide +kernel
  have h2 : lifS aw24L = 1 := by
    unfold lifS lifeV
    rw [h1, if_neg (by decide), if_pos (by decide)]
  unfold storV
  rw [h1, h2, show namesO aw24L = true from by decide +kernel, show (ctQ []).ns = false from by decide +kernel]
  simp [storB, ge24]
theorem aw24_no : storV ge24.data.toList 200 [] [] = false := by
  have h1 : lifS [] = 0 := by
    unfold lifS lifeV
    rw [if_neg (by decide +kernel), if_neg (by decide +kernel), fdt_none (show firQ exN [] = false from rfl)]
    rfl
  have h2 : valT [] = false := by
    unfold valT
    rw [fdt_none (show firQ lmN [] = false from rfl)]
    rfl
  unfold storV
  rw [h1, h2]
  simp [storB]
theorem sm_nil24 : Sm [] := ⟨Nat.zero_le _, fun i hi => absurd hi (Nat.not_lt_zero _)⟩
theorem fs_nil24 (w : World) (a : Option Addr) : Fs w a [] := fun i hi => absurd hi (Nat.not_lt_zero _)
theorem get_nil24 (nm : ByteArray) : ∀ x ∈ getL nm [], x.size ≤ 65000 := fun x hx => by cases hx
theorem aw24_sm : Sm aw24L := ⟨by decide, fun i hi => by
  match i, hi with
  | 0, _ => exact (show ccN.size ≤ 65536 ∧ ma24.size ≤ 65536 by decide)⟩
theorem aw24_get (nm : ByteArray) : ∀ x ∈ getL nm aw24L, x.size ≤ 65000 := by
  intro x hx
  unfold getL at hx
  obtain ⟨p, hp, rfl⟩ := List.mem_map.1 hx
  have h2 := (List.mem_filter.1 hp).1
  unfold aw24L at h2
  simp only [List.mem_cons, List.not_mem_nil, or_false] at h2
  subst h2; decide
theorem fs_one24 (a b : ByteArray) (w : World) (t : TypeId) : Fs (w.alloc (.cells #[.string a, .string b] t)) (some ⟨w.heap.size, 0, none⟩) [(a, b)] := by
  intro i hi
  match i, hi with
  | 0, _ => exact ⟨_, _, rfl, by rw [World.cell?_alloc_mark]; rfl, by rw [World.cell?_alloc_mark]; rfl⟩
theorem mUns24_is {m : ByteArray} {v : Bool} {w : World} (h : Box (unsB m.data.toList = v)) :
    Calls Tryd.prog 15 #[.string m] w fun e w' => e = .returned (.bool v) ∧ w = w' :=
  (mUns_any m w).mono fun e w' ⟨h1, h2⟩ => ⟨by rw [h1, h.out], h2⟩
theorem awake24_any (w : World) (hW : Tabs w) : Calls Tryd.prog 7 #[] w fun e w' => e = .returned (.bool true) ∧ Below w.heap.size w w' := by
  have HY := box aw24_yes
  have HN := box aw24_no
  have S0 := box sm_nil24
  have G0 := box get_nil24
  have S1 := box aw24_sm
  have G1 := box aw24_get
  have HU : Box (unsB (⟨#[80, 79, 83, 84]⟩ : ByteArray).data.toList = true) := box (by decide)
  obtain ⟨w3, hw3⟩ : ∃ w3, ((w.alloc (.cells #[.string ge24, .string ⟨#[]⟩, .int .i64 0, .slice none 0 0, .string ⟨#[]⟩] 24)).alloc (.cells #[.string ccN, .string ma24] 30)).alloc (.cells #[.int .i64 0, .int .i64 200, .string ⟨#[]⟩, .slice (some ⟨w.heap.size + 1, 0, none⟩) 1 1, .string ⟨#[]⟩] 26) = w3 := ⟨_, rfl⟩
  have HW3 := box hw3
  unfold ge24 ccN ma24 at HW3
  have b1 := below_new w (.cells #[.string ge24, .string ⟨#[]⟩, .int .i64 0, .slice none 0 0, .string ⟨#[]⟩] 24)
  have b2 := below_new (w.alloc (.cells #[.string ge24, .string ⟨#[]⟩, .int .i64 0, .slice none 0 0, .string ⟨#[]⟩] 24)) (.cells #[.string ccN, .string ma24] 30)
  have b3 := below_new ((w.alloc (.cells #[.string ge24, .string ⟨#[]⟩, .int .i64 0, .slice none 0 0, .string ⟨#[]⟩] 24)).alloc (.cells #[.string ccN, .string ma24] 30)) (.cells #[.int .i64 0, .int .i64 200, .string ⟨#[]⟩, .slice (some ⟨w.heap.size + 1, 0, none⟩) 1 1, .string ⟨#[]⟩] 26)
  have B3 : Box (Below w.heap.size w w3) := box (by rw [← hw3]; exact b1.trans ((b2.mono b1.size).trans (b3.mono (Nat.le_trans b1.size b2.size))))
  have C3 : Box (C5 w.heap.size (.string ge24) (.string ⟨#[]⟩) (.int .i64 0) (.slice none 0 0) (.string ⟨#[]⟩) w3) := box (by rw [← hw3]; exact ((C5.new _ _ _ _ _ w _).next b2).next b3)
  have F3 : Box (Fs w3 (some ⟨w.heap.size + 1, 0, none⟩) aw24L) := box (by
    have h := fs_one24 ccN ma24 (w.alloc (.cells #[.string ge24, .string ⟨#[]⟩, .int .i64 0, .slice none 0 0, .string ⟨#[]⟩] 24)) 30
    rw [show (w.alloc (.cells #[.string ge24, .string ⟨#[]⟩, .int .i64 0, .slice none 0 0, .string ⟨#[]⟩] 24)).heap.size = w.heap.size + 1 from by simp] at h
    rw [← hw3]; exact h.below b3)
  have T0 := box hW
  clear hw3 b1 b2 b3 hW
  go_enter Tryd.func7, Tryd.ntmps7
  go_wp2_with fail
  rw [HW3.out]
  refine (mStor_is (m := ge24) (Q := []) (L := aw24L) S0 G0 (fs_nil24 _ _) (box rfl) S1 G1 F3.out (box rfl) (T0.out.below B3.out) HY).mono ?_; rintro e w4 ⟨rfl, hb4⟩
  have B4 := box (B3.out.trans (hb4.mono B3.out.size))
  obtain ⟨⟨m0, m1, m2, m3, m4⟩, _⟩ := C3.out.next hb4
  clear hb4
  go_wp2_with fail
  refine (mStor_is (m := ge24) (Q := []) (L := []) S0 G0 (fs_nil24 _ _) (box rfl) S0 G0 (fs_nil24 _ _) (box rfl) (T0.out.below B4.out) HN).mono ?_; rintro e w5 ⟨rfl, hb5⟩
  have B5 := box (B4.out.trans (hb5.mono B4.out.size))
  clear hb5 m0 m1 m2 m3 m4
  go_wp2_with fail
  refine (mUns24_is HU).mono ?_; rintro e w6 ⟨rfl, rfl⟩
  go_wp2
  go_ret
  exact ⟨rfl, B5.out⟩
end
section
open Go.RowKit
theorem kReq24_is {m t : ByteArray} {n : Int} {a : Option Addr} {cap nq : Nat} {Q : List F} {b : ByteArray} {w : World} (hm : m.size ≤ maxLen) (ht : t.size ≤ maxLen) (hb : b.size ≤ maxLen) (hl : Box (Q.length ≤ maxLen)) (hF : Fs w a Q) (hn : Box (Q.length = nq)) :
    Calls Tryd.prog 4 #[.agg #[.string m, .string t, .int .i64 n, .slice a nq cap, .string b]] w fun e w' => KeepPost (okRq m t Q b) e ∧ Below w.heap.size w w' := by
  have h := kReq_any m t n a cap Q b w hm ht hb hl (box hF)
  unfold rqV at h
  rw [hn.out] at h; exact h
theorem kRes24_is {n s : Int} {r : ByteArray} {a : Option Addr} {cap nl : Nat} {L : List F} {b : ByteArray} {w : World} (hr : r.size ≤ maxLen) (hb : b.size ≤ maxLen) (hl : Box (L.length ≤ maxLen)) (hF : Fs w a L) (hn : Box (L.length = nl)) :
    Calls Tryd.prog 5 #[.agg #[.int .i64 n, .int .i64 s, .string r, .slice a nl cap, .string b]] w fun e w' => KeepPost (okRs r L b) e ∧ Below w.heap.size w w' := by
  have h := kRes_any n s r a cap L b w hr hb hl (box hF)
  unfold rsV at h
  rw [hn.out] at h; exact h
end
section
open Go.RowKit Go.Deep
section
variable {ops : Array Oper} {o : Oper} {a : Act} {K : Act → World → Prop} {Q : Exit → Act → World → Prop} {E : Prop}
/-- append of a list of fields, nil or not, empty or not, at a step of a region that draws its order -/
theorem step_append_flds (w : World) (hgd : o.guard = none) (s x : Operand)
    (ho : o.op = .call { callee := .builtin .append, args := #[s, x], argTypes := #[22, 22] })
    (B : Nat) (v : Value) (L M : List F) (hs : a.eval s = v) (hown : OwnF w B v L)
    (ad : Option Addr) (m c : Nat) (hx : a.eval x = .slice ad m c) (hm : M.length = m) (hn : ad = none → c = 0) (hM : Fs w ad M) (hl : L.length ≤ 65536) (hm6 : M.length ≤ 65536) (hB : B ≤ w.heap.size)
    (h : ∀ v' w', OwnF w' B v' (L ++ M) → Below B w w' → K (a.put o.dst v') w') :
    if Region.wanted o (yielded ops a.tmps) = true then Oper.wp Tryd.prog o a w K Q else E := by
  subst hm
  obtain ⟨i0, hi0, hz0, hz1, hz2⟩ := info_parts info_fld
  have hw : Region.wanted o (yielded ops a.tmps) = true := by simp [Region.wanted, hgd]
  rw [if_pos hw]
  rcases ad with _ | ad
  · have hc := hn rfl
    subst hc
    have he : M = [] := by
      rcases M with _ | ⟨p, M⟩
      · rfl
      · obtain ⟨g, off, e, _⟩ := hM 0 (by simp)
        cases e
    subst he
    rw [List.append_nil] at h
    have hrun := run_append_owned_none (P := Tryd.prog) (w := w) B 22 o.type 30 i0 2 Tryd.underlying22 hi0 v L.length (cellsF L) hown
    have hK := h v w hown (Below.refl _ _)
    unfold Oper.wp
    simp only [List.length_nil] at hx
    simp [execOp, ho, resolve, invoke, builtin, hs, hx, hrun, Result.andThen]
    exact hK
  · refine wp_append_own (P := Tryd.prog) w s x 22 ho B 30 i0 _ 2 32 Tryd.underlying22 hi0 hz0 hz1 hz2 rfl (by decide) v L.length (cellsF L) hs hown ad M.length c (cellsF M) hx (cellsF_len M) hM.news (cellsF_one M) (by unfold maxLen; omega) (by omega) hB ?_
    intro v' w' q1 q2 _
    exact h v' w' (by simpa [OwnF, cellsF_app] using q1) ((Below.refl _ _).grown q2 hB (fun k hk => own_block hown k hk))
end
theorem Fs.drop17 {w : World} {ad : Addr} {L : List F} (h : Fs w (some ad) L) (k : Nat) : Fs w (some (ad.add (k * 2))) (L.drop k) := fun i hi => by
  have h1 : k + i < L.length := by rw [List.length_drop] at hi; omega
  obtain ⟨g, off, e, c0, c1⟩ := h (k + i) h1
  cases e
  refine ⟨g, off + k * 2, by rw [add_at], ?_, ?_⟩
  · rw [List.getElem_drop, show off + k * 2 + i * 2 = off + (k + i) * 2 from by omega]; exact c0
  · rw [List.getElem_drop, show off + k * 2 + i * 2 + 1 = off + (k + i) * 2 + 1 from by omega]; exact c1
theorem Fs.nil17 (w : World) (a : Option Addr) : Fs w a [] := fun i hi => absurd hi (by simp)
theorem Fs.take17 {w : World} {a : Option Addr} {L : List F} (h : Fs w a L) (k : Nat) : Fs w a (L.take k) := fun i hi => by
  have h1 : i < L.length := by rw [List.length_take] at hi; omega
  obtain ⟨g, off, e, c0, c1⟩ := h i h1
  exact ⟨g, off, e, by rw [List.getElem_take]; exact c0, by rw [List.getElem_take]; exact c1⟩
/-- s[:k] -/
theorem run_hi24 {a : Option Addr} {n cap k : Nat} (hk : k ≤ cap) (w : World) : (Instr.slice 22 (.slice a n cap) none (some (.int .i64 (k : Int))) none).run Tryd.prog w = .ok (.slice a k cap) w := by
  obtain ⟨i0, hi0, hz0, hz1, hz2⟩ := info_parts info_fld
  have hk0 : (0 : Int) ≤ (k : Int) := by omega
  have hk1 : (k : Int) ≤ (cap : Int) := by omega
  have hm : a.map (fun x => x.add 0) = a := by cases a <;> simp [Addr.add]
  simp [Instr.slice, Instr.sliceBounds, Instr.sliceBound, run_underlying Tryd.underlying22, sizeOf, typeInfo, hi0, hz1, asIntOf, hk, Result.andThen, hm]
/-- s[k:] -/
theorem run_lo24 {a : Option Addr} {n cap k : Nat} (hk : k ≤ n) (w : World) : (Instr.slice 22 (.slice a n cap) (some (.int .i64 (k : Int))) none none).run Tryd.prog w = .ok (.slice (if cap = k then a else a.map (·.add (k * 2))) (n - k) (cap - k)) w := by
  obtain ⟨i0, hi0, hz0, hz1, hz2⟩ := info_parts info_fld
  have hk0 : (0 : Int) ≤ (k : Int) := by omega
  have hk1 : (k : Int) ≤ (n : Int) := by omega
  simp [Instr.slice, Instr.sliceBounds, Instr.sliceBound, run_underlying Tryd.underlying22, sizeOf, typeInfo, hi0, hz1, asIntOf, hk, Result.andThen]
/-- s[k:] by letters: what it holds, wherever it lies -/
theorem fld_lo {w : World} {a : Option Addr} {n cap k : Nat} {L : List F} (hF : Fs w a L) (hn : L.length = n) (hc : n ≤ cap) (h0 : a = none → cap = 0) (hk : k ≤ n) :
    ∃ p c, (∀ w, (Instr.slice 22 (.slice a n cap) (some (.int .i64 (k : Int))) none none).run Tryd.prog w = .ok (.slice p (n - k) c) w) ∧ (p = none → c = 0) ∧ Fs w p (L.drop k) := by
  refine ⟨_, _, run_lo24 hk, ?_, ?_⟩
  · intro h
    cases a with
    | none => have := h0 rfl; omega
    | some ad =>
      split at h
      · cases h
      · cases h
  · by_cases h1 : cap = k
    · rw [if_pos h1, List.drop_eq_nil_of_le (by omega)]
      exact Fs.nil17 _ _
    · rw [if_neg h1]
      cases a with
      | none => have := h0 rfl; omega
      | some ad => exact hF.drop17 k
end
section
open Go.RowKit Go.ChangeShapes Go.WideShapes Go.Deep
theorem wpList_append_flds17 (w : World) {ops : Array Oper} {rest : List Oper} {o : Oper} {a : Act} {Q : Exit → Act → World → Prop} (hgd : o.guard = none) (s x : Operand)
    (ho : o.op = .call { callee := .builtin .append, args := #[s, x], argTypes := #[22, 22] })
    (B : Nat) (v : Value) (L M : List F) (hs : a.eval s = v) (hown : OwnF w B v L)
    (ad : Option Addr) (m c : Nat) (hx : a.eval x = .slice ad m c) (hm : M.length = m) (hn : ad = none → c = 0) (hM : Fs w ad M) (hl : L.length ≤ 65536) (hm6 : M.length ≤ 65536) (hB : B ≤ w.heap.size)
    (h : ∀ v' w', OwnF w' B v' (L ++ M) → Below B w w' → wpList Tryd.prog ops Q rest (a.put o.dst v') w') : wpList Tryd.prog ops Q (o :: rest) a w := by
  subst hm
  exact wpList_append_flds w hgd s x ho B v L M hs hown ad c hx hn hM hl hm6 hB h
end
end Go.Proofs.YtiogngfemelifaaDoor.Asc
