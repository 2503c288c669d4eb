/- Merged texts: AccPre LisRef4 AccRef5 BldJoin LisMine AccFmt QvaLaid. -/
import Derived.Test.YtnpllgjkbpnimaaDoorM05
import Derived.Test.YtnpllgjkbpnimaaDoorM08
import Derived.Test.YtnpllgjkbpnimaaDoorM09
import Derived.Test.YtnpllgjkbpnimaaDoorM10
import Derived.Test.YtnpllgjkbpnimaaDoorM12
import Derived.LaidMore
import Derived.Lib.LaidTab
set_option linter.unusedVariables false
set_option linter.unusedSimpArgs false
set_option maxRecDepth 100000
namespace Go.Proofs.YtnpllgjkbpnimaaDoor.Asc
section
open Go.RowKit
set_option maxHeartbeats 2000000 in
theorem mPrefs0_any (k : Int) (a : Option Addr) (cap : Nat) (L : List F) (w : World) (hk : InI64 k) (S : Box (Sm L)) (hv6 : Box (∀ x ∈ getL (nameK k) L, x.size ≤ 65000)) (hmz : Box (∀ m ∈ allL (nameK k) L, m.length ≤ 20000)) (hF : Box (Fs w a L)) (hW : Wts w) :
    Calls Tryd.prog 13 #[.int .i64 k, .slice a L.length cap] w fun e w' => ∃ v, e = .returned (.tuple #[v, .bool (prefsO k L)]) ∧ OwnQ w' w.heap.size v (prefsV k L) ∧ Below w.heap.size w w' := by
  obtain ⟨nm, hnm⟩ : ∃ nm, nameK k = nm := ⟨_, rfl⟩
  have HN := box hnm
  have HT := box hW
  have hnz : nm.size ≤ 15 := by rw [← hnm]; exact name_size k
  have hm65 : Box (nm.size ≤ 65536) := box (by omega)
  have hl := S.out.1
  clear hW
  by_cases h0 : nm = ⟨#[]⟩
  · have HO : Box (prefsO k L = false) := box (by unfold prefsO; rw [hnm, decide_eq_false (by simp [h0]), Bool.false_and])
    have HV : Box (prefsV k L = []) := box (by unfold prefsV; rw [HO.out]; rfl)
    subst h0
    clear hnm
    go_enter Tryd.func13, Tryd.ntmps13
    go_wp2_with fail
    refine (mName0_is hk HN).mono ?_; rintro e w1 ⟨rfl, rfl⟩
    go_wp2
    go_ret2
    exact ⟨_, by rw [HO.out]; rfl, by rw [HV.out]; exact OwnQ.nil _ _, Below.refl _ _⟩
  · have e0 : (nm.toList == []) = false := by
      rw [toList_data, beq_eq_false_iff_ne]
      intro e; apply h0; rw [bs_of nm, e]; rfl
    have HNE : Box (decide (nameK k ≠ ⟨#[]⟩) = true) := box (decide_eq_true (by rw [hnm]; exact h0))
    rw [hnm] at hv6 hmz
    clear h0 hnm
    cases hh : L.any (nmd nm) with
    | false =>
      have HH := box hh
      have HO : Box (prefsO k L = false) := box (by unfold prefsO; rw [HN.out, hh, Bool.and_false])
      have HV : Box (prefsV k L = []) := box (by unfold prefsV; rw [HO.out]; rfl)
      clear hh
      go_enter Tryd.func13, Tryd.ntmps13
      go_wp2_with fail
      refine (mName0_is hk HN).mono ?_; rintro e w1 ⟨rfl, rfl⟩
      go_wp2_with fail
      refine (Has_any a cap L nm _ hl S hm65 hF).mono ?_; rintro e w1 ⟨rfl, hb1⟩; rw [HH.out]
      go_wp2
      go_ret2
      exact ⟨_, by rw [HO.out]; rfl, by rw [HV.out]; exact OwnQ.nil _ _, hb1⟩
    | true =>
      have HH := box hh
      have HO : Box (prefsO k L = true) := box (by unfold prefsO; rw [HNE.out, HN.out, hh]; rfl)
      obtain ⟨A, hA⟩ : ∃ A, allL nm L = A := ⟨_, rfl⟩
      have HV : Box (prefsV k L = A.filterMap (memP k)) := box (by unfold prefsV prefsL; rw [HO.out, HN.out, hA]; rfl)
      have HAB : Box (allB nm L = A.map bs) := box (by unfold allB; rw [hA])
      have hA64 : A.length ≤ 64 := by rw [← hA]; unfold allL; rw [List.length_take]; omega
      have HSZ : Box (∀ j (hj : j < A.length), A[j].length ≤ 20000) := box (fun j hj => by
        have hm : A[j] ∈ allL nm L := by rw [hA]; exact List.getElem_mem hj
        exact hmz.out _ hm)
      clear hh hA
      go_enter Tryd.func13, Tryd.ntmps13
      go_wp2_with fail
      refine (mName0_is hk HN).mono ?_; rintro e w1 ⟨rfl, rfl⟩
      go_wp2_with fail
      refine (Has_any a cap L nm _ hl S hm65 hF).mono ?_; rintro e w1 ⟨rfl, hb1⟩; rw [HH.out]
      have B1 := box hb1
      have F1 := box (hF.out.below hb1)
      clear hb1
      go_wp2_with fail
      refine (mAll_any a cap L nm _ S hv6 hm65 F1).mono ?_; rintro e w2 ⟨v2, rfl, hO2, hb2⟩
      rw [HAB.out] at hO2
      obtain ⟨a2, c2, rfl, hS2, hc2⟩ := hO2.ss
      rw [List.length_map] at hc2 ⊢
      have B2 := box (B1.out.trans (hb2.mono B1.out.size))
      have T2 := box (HT.out.below B2.out)
      have S2 := box hS2
      clear hO2 hb2 hS2
      go_wp2
      go_loopw [7, 26] (fun v i wr => PfRel k A w2 v i wr) (fun _ i _ => A.length - (intOf i).toNat)
      case atStart => exact ⟨0, rfl, Nat.zero_le _, OwnQ.nil _ _, Nat.le_refl _, Below.refl _ _⟩
      case round =>
        obtain ⟨j, rfl, hj, hO, hlen, hbel⟩ := hrel
        obtain ⟨acc, hacc⟩ : ∃ acc, (A.take j).filterMap (memP k) = acc := ⟨_, rfl⟩
        have HACC := box hacc
        rw [hacc] at hO hlen
        obtain ⟨av, cv, rfl, _, _⟩ := hO.qs
        have O0 := box hO
        have BL := box hbel
        have TL := box (T2.out.below hbel)
        have SS := S2.out.below hbel
        clear hO hbel hacc
        by_cases hlt : j < A.length
        · have hji : (j : Int) < (A.length : Int) := by omega
          obtain ⟨m, hm⟩ : ∃ m, A[j] = m := ⟨_, rfl⟩
          have HNX := box (fm_next (k := k) hlt)
          rw [HACC.out, hm] at HNX
          have hmz : (bs m).size ≤ 20000 := by rw [bs_size, ← hm]; exact HSZ.out j hlt
          obtain ⟨g, off, rfl, cA⟩ := SS j (by simpa using hlt)
          have cA' : wr.cell? ⟨g, off + j, none⟩ = some (.string (bs m)) := by rw [cA]; simp [hm]
          obtain ⟨o, ho⟩ : ∃ o, memP k m = o := ⟨_, rfl⟩
          have HO2 : Box (memP k (bs m).data.toList = o) := box ho
          rw [ho] at HNX
          clear cA SS hm ho
          go_wp2_with fail
          refine (mpp_is hk hmz TL.out HO2).mono ?_; rintro e w3 ⟨⟨x, q, b, rfl, hb, hp⟩, hb3⟩
          have O3 := box (own_below O0.out hb3)
          have B3 := box (BL.out.trans (hb3.mono BL.out.size))
          have HB := box hb
          have HPP := box hp
          clear hb3 hb hp cA'
          cases b with
          | false =>
            have HE : Box ((A.take (j + 1)).filterMap (memP k) = acc) := box (by
              rw [HNX.out]
              have h := HB.out
              cases o with
              | none => simp
              | some p => cases h)
            go_wp2
            go_roundw
            case rel => exact ⟨j + 1, by go_num, hlt, by rw [HE.out]; exact own_below O3.out (below_new _ _), by rw [HE.out]; omega, B3.out.alloc B3.out.size _⟩
            case measure => simp [intOf]; omega
          | true =>
            have HE : Box ((A.take (j + 1)).filterMap (memP k) = acc ++ [(x, q)]) := box (by
              rw [HNX.out]
              have h := HB.out
              have h2 := HPP.out
              cases o with
              | none => cases h
              | some p => rw [h2 p rfl])
            go_wp2_with (at_builtin; refine wpList_append_prf _ rfl (.tmp 37) (.tmp 39) rfl w2.heap.size _ acc rfl ?a1 _ _ rfl x q ?b1 ?b2 ?c1 ?d1 ?_)
            case a1 => exact own_below (own_below O3.out (below_new _ _)) (below_new _ _)
            case b1 => go_simp
            case b2 => go_simp
            case c1 => omega
            case d1 => have := B3.out.size; simp; omega
            intro v5 w5 hO5 hb5
            have O5 := box hO5
            have B5 := box (((B3.out.alloc B3.out.size _).alloc (B3.out.alloc B3.out.size _).size _).trans hb5)
            clear hO5 hb5
            go_wp2
            go_roundw
            case rel => exact ⟨j + 1, by go_num, hlt, by rw [HE.out]; exact O5.out, by rw [HE.out, List.length_append]; simp; omega, B5.out⟩
            case measure => simp [intOf]; omega
        · have hji : ¬ (j : Int) < (A.length : Int) := by omega
          have HE : Box (prefsV k L = acc) := box (by rw [HV.out, ← HACC.out, List.take_of_length_le (by omega)])
          clear SS
          go_wp2
          go_ret2
          exact ⟨_, by rw [HO.out]; rfl, by rw [HE.out]; exact own_le O0.out B2.out.size, B2.out.trans (BL.out.mono B2.out.size)⟩
theorem mPrefs_any (k : Int) (a : Option Addr) (cap : Nat) (L : List F) (w : World) (hk : InI64 k) (S : Box (Sm L)) (hv : Box (∀ x ∈ getL (nameK k) L, x.size ≤ 65000)) (hmz : Box (∀ m ∈ allL (nameK k) L, m.length ≤ 20000)) (hF : Box (Fs w a L)) (hW : Wts w) :
    Calls Tryd.prog 13 #[.int .i64 k, .slice a L.length cap] w fun e w' => ∃ p c, e = .returned (.tuple #[.slice p (prefsV k L).length c, .bool (prefsO k L)]) ∧ Qs w' p (prefsV k L) ∧ Below w.heap.size w w' :=
  (mPrefs0_any k a cap L w hk S hv hmz hF hW).mono fun e w' ⟨v, h1, h2, h3⟩ => by
    obtain ⟨p, c, rfl, hQ, _⟩ := h2.qs
    exact ⟨p, c, h1, hQ, h3⟩
end
section
open Go.RowKit
def joinB (L : List ByteArray) : ByteArray := bs (joinC (L.map fun x => x.data.toList))
end
section
open Go.RowKit
def fmtPf (L : List QP) : ByteArray := joinB (L.map fun p => bs (onePref p))
theorem cell_new13 (w : World) (u : Value) (t : TypeId) : (w.alloc (.cells #[u] t)).cell? ⟨w.heap.size, 0, none⟩ = some u := by rw [World.cell?_alloc_mark]; rfl
def FpRel (L : List QP) (W : World) (v i : Value) (wr : World) : Prop :=
  ∃ j : Nat, i = .int .i64 j ∧ j ≤ L.length ∧ OwnS wr W.heap.size v ((L.take j).map fun p => bs (onePref p)) ∧ Below W.heap.size W wr
theorem map_next {α β : Type} {f : α → β} {L : List α} {j : Nat} (h : j < L.length) : (L.take (j + 1)).map f = (L.take j).map f ++ [f L[j]] := by
  rw [List.take_succ_eq_append_getElem h, List.map_append]; rfl
theorem fmtQ_le5 (q : Int) : (fmtQ q).length ≤ 5 := by
  by_cases h : q < 0 ∨ 1000 < q
  · rw [qv_none q h]; simp
  · have key : ∀ n : Fin 1001, (fmtQ (n.1 : Int)).length ≤ 5 := by decide +kernel
    have := key ⟨q.toNat, by omega⟩
    simp only at this
    rwa [show ((q.toNat : Nat) : Int) = q from by omega] at this
end
section
open Go.RowKit
/-- the lengths of the first k -/
def lenT (L : List ByteArray) (k : Nat) : Nat := ((L.take k).map (·.size)).sum
theorem lenT_next {L : List ByteArray} {k : Nat} (h : k < L.length) : lenT L (k + 1) = lenT L k + L[k].size := by
  unfold lenT; rw [List.take_add_one, List.getElem?_eq_getElem h, Option.toList_some, List.map_append, List.sum_append]; rfl
theorem lenT_le {L : List ByteArray} (hz : ∀ x ∈ L, x.size ≤ 65536) : ∀ k, lenT L k ≤ k * 65536
  | 0 => by simp [lenT]
  | k + 1 => by
    have ih := lenT_le hz k
    by_cases h : k < L.length
    · rw [lenT_next h]; have := hz L[k] (List.getElem_mem h); omega
    · have e : lenT L (k + 1) = lenT L k := by unfold lenT; rw [List.take_of_length_le (by omega), List.take_of_length_le (by omega)]
      omega
theorem joinC_len {ms : List (List UInt8)} (hz : ∀ x ∈ ms, x.length ≤ 65536) : ∀ k, (joinC (ms.take k)).length ≤ k * 65540
  | 0 => by simp [joinC]
  | k + 1 => by
    have ih := joinC_len hz k
    by_cases h : k < ms.length
    · have := hz ms[k] (List.getElem_mem h)
      rw [joinC_more h]
      split
      · omega
      · simp only [List.length_append, List.length_cons, List.length_nil]; omega
    · have e : ms.take (k + 1) = ms.take k := by rw [List.take_of_length_le (by omega), List.take_of_length_le (by omega)]
      rw [e]
      exact Nat.le_trans ih (Nat.mul_le_mul_right _ (Nat.le_succ k))
theorem joinC_two {a b : List UInt8} {r : List (List UInt8)} : joinC (a :: b :: r) ≠ [] := by
  show a ++ [44, 32] ++ joinC (b :: r) ≠ []
  simp
theorem Join0_any (a : Option Addr) (cap : Nat) (w : World) :
    Calls Tryd.prog 48 #[.slice a 0 cap, .string ⟨#[44, 32]⟩] w fun e w' => e = .returned (.string ⟨#[]⟩) ∧ w = w' := by
  go_enter Tryd.func48, Tryd.ntmps48
  go_wp2
  go_ret
  exact ⟨rfl, rfl⟩
theorem Join1_any (q off cap : Nat) (x : ByteArray) (w : World) (c0 : w.cell? ⟨q, off, none⟩ = some (.string x)) :
    Calls Tryd.prog 48 #[.slice (some ⟨q, off, none⟩) 1 cap, .string ⟨#[44, 32]⟩] w fun e w' => e = .returned (.string x) ∧ w = w' := by
  go_enter Tryd.func48, Tryd.ntmps48
  go_wp2
  go_ret
  exact ⟨rfl, rfl⟩
def Jn1 (L : List ByteArray) (n i : Value) : Prop := ∃ k : Nat, k ≤ L.length ∧ i = .int .i64 k ∧ n = .int .i64 ((2 * (L.length - 1) + lenT L k : Nat) : Int)
def Jn2 (ms : List (List UInt8)) (B : Nat) (w : World) (i : Value) (wr : World) : Prop := ∃ k : Nat, k + 1 ≤ ms.length ∧ i = .int .i64 k ∧ Box (Bld wr B B (joinC (ms.take (k + 1)))) ∧ Box (Below B w wr)
set_option maxHeartbeats 2000000 in
theorem JoinN_any (q off cap : Nat) (L : List ByteArray) (w : World) (h2 : 2 ≤ L.length) (hl : L.length ≤ 65536) (hcap : L.length ≤ cap) (hz : Box (∀ x ∈ L, x.size ≤ 65536)) (hF : Box (Ss w (some ⟨q, off, none⟩) L)) :
    Calls Tryd.prog 48 #[.slice (some ⟨q, off, none⟩) L.length cap, .string ⟨#[44, 32]⟩] w fun e w' => e = .returned (.string (joinB L)) ∧ Below w.heap.size w w' := by
  have hdv : ¬ (9223372036854775807 / ((L.length : Int) - 1) ≤ 2) := by
    have : 3 ≤ 9223372036854775807 / ((L.length : Int) - 1) := by
      rw [Int.le_ediv_iff_mul_le (by omega)]; omega
    omega
  have hne0 : ((L.length : Int) == 0) = false := beq_eq_false_iff_ne.2 (by omega)
  have hne1 : ((L.length : Int) == 1) = false := beq_eq_false_iff_ne.2 (by omega)
  go_enter Tryd.func48, Tryd.ntmps48
  go_wp2_with fail
  go_loop [5, 41] (fun n i => Jn1 L n i) (fun _ i => L.length - (intOf i).toNat)
  case atStart => exact ⟨0, Nat.zero_le _, rfl, by unfold lenT; simp; omega⟩
  case round =>
    obtain ⟨k, hk, rfl, rfl⟩ := hrel
    have hlz := lenT_le hz.out k
    by_cases hlt : k < L.length
    · obtain ⟨q', off', e, c0⟩ := hF.out k hlt
      cases e
      have hx := hz.out L[k] (List.getElem_mem hlt)
      have HN := box (lenT_next hlt)
      obtain ⟨A, hA⟩ : ∃ A, lenT L k = A := ⟨_, rfl⟩
      have HA := box hA
      rw [hA] at hlz ⊢
      clear hA
      go_wp2
      go_round
      case rel => exact ⟨k + 1, by omega, by go_num, by rw [HN.out, HA.out]; go_num⟩
      case measure => simp [intOf]; omega
    · obtain rfl : k = L.length := by omega
      obtain ⟨n, hn⟩ : ∃ n, 2 * (L.length - 1) + lenT L L.length = n := ⟨_, rfl⟩
      have hn8 : n ≤ 281474976710656 := by omega
      rw [hn]
      clear hn hlz
      obtain ⟨ms, hms⟩ : ∃ ms, (L.map fun x => x.data.toList) = ms := ⟨_, rfl⟩
      have HJ : Box (joinB L = bs (joinC ms)) := box (by unfold joinB; rw [hms])
      have hml : ms.length = L.length := by rw [← hms, List.length_map]
      have HME : Box (∀ k (h : k < L.length), ms[k]'(by omega) = L[k].data.toList) := box (fun k h => by simp only [← hms, List.getElem_map])
      have HML : Box (∀ x ∈ ms, x.length ≤ 65536) := box (fun x hx => by
        rw [← hms] at hx
        obtain ⟨y, hy, rfl⟩ := List.mem_map.mp hx
        have := hz.out y hy
        simpa using this)
      clear hms
      have hq : q < w.heap.size := by
        obtain ⟨q', off', e, c0⟩ := hF.out 0 (by omega)
        cases e
        exact cell_lt c0
      go_wp2_with fail
      refine (Grow_new w.heap.size w.heap.size n _ (Nat.le_refl _) (heap_alloc_new w _) (by simp) hn8).mono ?_; rintro e w1 ⟨rfl, hA1, hb1⟩
      have A1 : Box (Bld w1 w.heap.size w.heap.size []) := box (.inr hA1)
      have B1 := box ((below_new w _).trans hb1)
      have hs1 := B1.out.size
      clear hA1 hb1
      have hl0 : 0 < L.length := by omega
      obtain ⟨q', off', e, c0⟩ := (hF.out.below B1.out) 0 hl0
      cases e
      rw [Nat.add_zero] at c0
      have hx0 := hz.out L[0] (List.getElem_mem hl0)
      go_wp2_with fail
      refine (WriteString_any w.heap.size w.heap.size [] L[0] _ A1 (by rw [List.length_nil]; omega) hs1).mono ?_; rintro e w2 ⟨rfl, hA2, hb2⟩
      have A2 : Box (Bld w2 w.heap.size w.heap.size (joinC (ms.take 1))) := box (.inr (by
        rw [joinC_more (k := 0) (by omega), if_pos rfl, HME.out 0 hl0]; exact hA2))
      have B2 := box (B1.out.trans hb2)
      clear hA2 hb2 c0
      go_wp2_with fail
      go_loopw [65] (fun i wr => Jn2 ms w.heap.size w i wr) (fun i _ => L.length - (intOf i).toNat)
      case atStart => exact ⟨0, by omega, rfl, A2, B2⟩
      case round =>
        obtain ⟨k, hk, rfl, A3, B3⟩ := hrel
        have hs3 := B3.out.size
        have hjl := joinC_len HML.out (k + 1)
        by_cases hlt : k + 1 < L.length
        · obtain ⟨q', off', e, c0⟩ := (hF.out.below B3.out) (k + 1) hlt
          cases e
          rw [show off + (k + 1) = off + 1 + k from by omega] at c0
          have hxk := hz.out L[k + 1] (List.getElem_mem hlt)
          go_wp2_with fail
          refine (WriteString_any w.heap.size w.heap.size _ ⟨#[44, 32]⟩ _ A3 (by show _ + 2 ≤ _; omega) hs3).mono ?_; rintro e w4 ⟨rfl, hA4, hb4⟩
          have A4 : Box (Bld w4 w.heap.size w.heap.size (joinC (ms.take (k + 1)) ++ [44, 32])) := box (.inr hA4)
          have B4 := box (B3.out.trans hb4)
          have hs4 := B4.out.size
          clear hA4 hb4
          go_wp2_with fail
          refine (WriteString_any w.heap.size w.heap.size _ L[k + 1] _ A4 (by rw [List.length_append]; show _ + 2 + _ ≤ _; omega) hs4).mono ?_; rintro e w5 ⟨rfl, hA5, hb5⟩
          have A5 : Box (Bld w5 w.heap.size w.heap.size (joinC (ms.take (k + 1 + 1)))) := box (.inr (by
            rw [joinC_more (k := k + 1) (by omega), if_neg (by omega), HME.out (k + 1) hlt]; exact hA5))
          have B5 := box (B4.out.trans hb5)
          clear hA5 hb5 c0
          go_wp2
          go_roundw
          case rel => exact ⟨k + 1, by omega, by go_num, A5, B5⟩
          case measure => simp [intOf]; omega
        · have hfull : ms.take (k + 1) = ms := List.take_of_length_le (by omega)
          rw [hfull] at A3
          have hne : joinC ms ≠ [] := by
            match ms, hml, h2 with
            | [], e, _ => simp at e; omega
            | [a], e, _ => simp at e; omega
            | a :: b :: r, _, _ => exact joinC_two
          go_wp2_with fail
          refine (String_any w.heap.size w.heap.size _ _ A3 hne).mono ?_; rintro e w6 ⟨rfl, hb6⟩
          have B6 := box (B3.out.trans hb6)
          clear hb6
          go_wp2
          go_ret
          exact ⟨by rw [HJ.out]; rfl, B6.out⟩
end
section
open Go.RowKit
theorem sJoin_any (a : Option Addr) (cap : Nat) (L : List ByteArray) (w : World) (hl : L.length ≤ 65536) (hc : L.length ≤ cap) (hz : Box (∀ x ∈ L, x.size ≤ 65536)) (hF : Box (Ss w a L)) :
    Calls Tryd.prog 48 #[.slice a L.length cap, .string ⟨#[44, 32]⟩] w fun e w' => e = .returned (.string (joinB L)) ∧ Below w.heap.size w w' := by
  match L, hl, hc, hz, hF with
  | [], _, _, _, _ => exact (Join0_any a cap w).mono fun e w' ⟨h1, h2⟩ => ⟨h1, h2 ▸ Below.refl _ _⟩
  | [x], _, _, _, hF =>
    obtain ⟨q, off, rfl, c0⟩ := hF.out 0 (Nat.zero_lt_succ 0)
    exact (Join1_any q off cap x w c0).mono fun e w' ⟨h1, h2⟩ => ⟨h1, h2 ▸ Below.refl _ _⟩
  | x :: y :: r, hl, hc, hz, hF =>
    obtain ⟨q, off, rfl, c0⟩ := hF.out 0 (Nat.zero_lt_succ _)
    exact JoinN_any q off cap (x :: y :: r) w (Nat.le_add_left 2 r.length) hl hc hz hF
theorem mJoin_any (a : Option Addr) (cap : Nat) (L : List ByteArray) (w : World) (hl : L.length ≤ 65536) (hc : L.length ≤ cap) (hz : Box (∀ x ∈ L, x.size ≤ 65536)) (hF : Box (Ss w a L)) :
    Calls Tryd.prog 29 #[.slice a L.length cap] w fun e w' => e = .returned (.string (joinB L)) ∧ Below w.heap.size w w' := by
  go_enter Tryd.func29, Tryd.ntmps29
  go_wp2_with fail
  refine (sJoin_any a cap L _ hl hc hz hF).mono ?_; rintro e w1 ⟨rfl, hb⟩
  have B := box hb
  clear hb
  go_wp2
  go_ret
  exact ⟨rfl, B.out⟩
end
section
open Go.RowKit
theorem mFq13_is {q : Int} {x : ByteArray} {w : World} (hq : InI64 q) (hW : Wts w) (h : Box (bs (fmtQ q) = x)) :
    Calls Tryd.prog 47 #[.int .i64 q] w fun e w' => e = .returned (.string x) ∧ Below w.heap.size w w' :=
  (mFormat8_any q w hq hW).mono fun e w' ⟨h1, h2⟩ => ⟨by rw [h1, h.out], h2⟩
set_option maxHeartbeats 1000000 in
theorem mfp_is {x : ByteArray} {q : Int} {y : ByteArray} {w : World} (hxz : x.size ≤ 65000) (hq : InI64 q) (hW : Wts w) (h : Box (bs (onePref (x, q)) = y)) :
    Calls Tryd.prog 28 #[.agg #[.string x, .int .i64 q]] w fun e w' => e = .returned (.string y) ∧ Below w.heap.size w w' := by
  have HT := box hW
  clear hW
  by_cases h1 : q = 1000
  · subst h1
    obtain rfl : x = y := by rw [← h.out]; unfold onePref; simp only [if_pos, List.append_nil]; rfl
    go_enter Tryd.func28, Tryd.ntmps28
    go_wp2
    go_ret
    exact ⟨rfl, below_new w _⟩
  · have hqn : (q == 1000) = false := by simp [h1]
    obtain ⟨f, hf⟩ : ∃ f, bs (fmtQ q) = f := ⟨_, rfl⟩
    have HFQ := box hf
    have hfz : f.size ≤ 5 := by rw [← hf, bs_size]; exact fmtQ_le5 q
    have hyq : (x ++ (⟨#[59, 113, 61]⟩ : ByteArray)) ++ f = y := by
      rw [← h.out, ← hf]
      unfold onePref
      rw [if_neg h1, bs_of (x ++ (⟨#[59, 113, 61]⟩ : ByteArray) ++ bs (fmtQ q))]
      congr 1
      simp
      rfl
    have ad1 : ∀ w, (Op.stringOp .add x ⟨#[59, 113, 61]⟩).run Tryd.prog w = .ok (.string (x ++ ⟨#[59, 113, 61]⟩)) w := fun w => run_string_add_sum w _ _ (by show x.size + 3 ≤ 9223372036854775807; omega)
    have ad2 : ∀ w, (Op.stringOp .add (x ++ (⟨#[59, 113, 61]⟩ : ByteArray)) f).run Tryd.prog w = .ok (.string y) w := fun w => by
      have := run_string_add_sum (P := Tryd.prog) w (x ++ (⟨#[59, 113, 61]⟩ : ByteArray)) f (by rw [ByteArray.size_append]; show x.size + 3 + f.size ≤ 9223372036854775807; omega)
      rw [hyq] at this; exact this
    have C0 := box (C2.new (.string x) (.int .i64 q) w 44)
    have B0 := box (below_new w (.cells #[.string x, .int .i64 q] 44))
    have T0 := box (HT.out.below B0.out)
    clear hf hyq h1
    go_enter Tryd.func28, Tryd.ntmps28
    go_wp2_with fail
    go_region_held3 (fun w' => w'.cell? ⟨w.heap.size, 0, none⟩ = some (.string x) ∧ w'.cell? ⟨w.heap.size, 1, none⟩ = some (.int .i64 q))
      (first | (exact ⟨C9.out.1.1, C9.out.1.2⟩) | (exact ⟨C0.out.1.1, C0.out.1.2⟩) | go_keep)
      (first | (go_at_call 47; refine (mFq13_is hq (T0.out.below (below_drewN _ _)) HFQ).mono ?_; rintro e w1 ⟨rfl, hb1⟩; have C9 := box ((C0.out.below (below_drewN _ _) C0.out.lt).next hb1); have B9 := box (B0.out.trans (((below_drewN _ _).trans (hb1.mono (below_drewN _ _).size)).mono B0.out.size))))
    go_wp2
    go_ret
    exact ⟨rfl, B9.out⟩
set_option maxHeartbeats 1000000 in
theorem mFmtPrefs_any (a : Option Addr) (cap : Nat) (L : List QP) (w : World) (hl : L.length ≤ 65536) (hz : Box (∀ i (hi : i < L.length), L[i].1.size ≤ 65000)) (hq : Box (∀ i (hi : i < L.length), InI64 L[i].2)) (hF : Box (Qs w a L)) (hW : Wts w) :
    Calls Tryd.prog 17 #[.slice a L.length cap] w fun e w' => e = .returned (.string (fmtPf L)) ∧ Below w.heap.size w w' := by
  have HT := box hW
  clear hW
  go_enter Tryd.func17, Tryd.ntmps17
  go_wp2
  go_loopw [3, 8] (fun v i wr => FpRel L w v i wr) (fun _ i _ => L.length - (intOf i).toNat)
  case atStart => exact ⟨0, rfl, Nat.zero_le _, OwnS.nil _ _, Below.refl _ _⟩
  case round =>
    obtain ⟨j, rfl, hj, hO, hbel⟩ := hrel
    obtain ⟨acc, hacc⟩ : ∃ acc, ((L.take j).map fun p => bs (onePref p)) = acc := ⟨_, rfl⟩
    have HACC := box hacc
    rw [hacc] at hO
    have hal : acc.length ≤ 65536 := by rw [← hacc, List.length_map, List.length_take]; omega
    obtain ⟨av, cv, rfl, _, hcv⟩ := hO.ss
    have O0 := box hO
    have BL := box hbel
    have TL := box (HT.out.below hbel)
    have QS := hF.out.below hbel
    clear hO hbel hacc
    by_cases hlt : j < L.length
    · have hji : (j : Int) < (L.length : Int) := by omega
      obtain ⟨⟨x, q⟩, hp⟩ : ∃ p, L[j] = p := ⟨_, rfl⟩
      have HNX := box (map_next (f := fun p : QP => bs (onePref p)) hlt)
      rw [HACC.out, hp] at HNX
      obtain ⟨g, off, rfl, c0, c1⟩ := QS j hlt
      rw [hp] at c0 c1
      have hxz : x.size ≤ 65000 := by have := hz.out j hlt; rw [hp] at this; exact this
      have hqi : InI64 q := by have := hq.out j hlt; rw [hp] at this; exact this
      obtain ⟨y, hy⟩ : ∃ y, bs (onePref (x, q)) = y := ⟨_, rfl⟩
      have HY := box hy
      have HE : Box (((L.take (j + 1)).map fun p => bs (onePref p)) = acc ++ [y]) := box (by rw [HNX.out, hy])
      have B2 : Box (Below w.heap.size w (wr.alloc (.cells #[.string x, .int .i64 q] 44))) := box (BL.out.alloc BL.out.size _)
      have T2 := box (HT.out.below B2.out)
      have O2 : Box (OwnS (wr.alloc (.cells #[.string x, .int .i64 q] 44)) w.heap.size (.slice av acc.length cv) acc) := box (own_below O0.out (below_new _ _))
      clear QS hp hy
      go_wp2_with fail
      refine (mfp_is hxz hqi T2.out HY).mono ?_; rintro e w3 ⟨rfl, hb3⟩
      have O3 := box (own_below O2.out hb3)
      have B3 := box (B2.out.trans (hb3.mono B2.out.size))
      clear hb3 c0 c1
      go_wp2_with (at_builtin; refine wpList_append_str _ rfl (.tmp 12) (.tmp 15) rfl w.heap.size _ acc rfl (own_below O3.out (below_new _ _)) _ _ rfl y (cell_new13 _ _ _) (by omega) (by have := B3.out.size; simp; omega) ?_)
      intro v5 w5 hO5 hb5
      have O5 := box hO5
      have B5 := box ((B3.out.alloc B3.out.size _).trans hb5)
      clear hO5 hb5
      go_wp2
      go_roundw
      case rel => exact ⟨j + 1, by go_num, hlt, by rw [HE.out]; exact O5.out, B5.out⟩
      case measure => simp [intOf]; omega
    · have hji : ¬ (j : Int) < (L.length : Int) := by omega
      have HE : Box (joinB acc = fmtPf L) := box (by unfold fmtPf; rw [← HACC.out, List.take_of_length_le (by omega)])
      have hsz : Box (∀ y ∈ acc, y.size ≤ 65536) := box (fun y hy => by
        rw [← HACC.out] at hy
        obtain ⟨p, hp, rfl⟩ := List.mem_map.1 hy
        obtain ⟨i, hi, rfl⟩ := List.getElem_of_mem (List.mem_of_mem_take hp)
        have h1 := hz.out i hi
        have h2 := fmtQ_le5 L[i].2
        rw [bs_size]
        unfold onePref
        rw [List.length_append]
        have hz2 : L[i].1.data.toList.length = L[i].1.size := by simp
        split
        · simp; omega
        · simp only [List.length_cons]; omega)
      obtain ⟨a5, c5, hv5, hS5, _⟩ := O0.out.ss
      cases hv5
      have S5 := box hS5
      clear QS hS5
      go_wp2_with fail
      refine (mJoin_any av cv acc _ hal hcv hsz S5).mono ?_; rintro e w3 ⟨rfl, hb3⟩
      have B3 := box (BL.out.trans (hb3.mono BL.out.size))
      clear hb3
      go_wp2
      go_ret
      exact ⟨by rw [← HE.out]; rfl, B3.out⟩
end
section
open Go.RowKit
theorem cell_size {w : World} {a : Addr} {v : Value} (h : w.cell? a = some v) : a.block < w.heap.size := by
  refine Nat.lt_of_not_le fun hle => ?_
  unfold World.cell? at h
  rw [Array.getElem?_eq_none hle] at h
  cases h
theorem gWeights : Tryd.prog.globalNamed "variantproxy/qvalue.weights" = some 0 := by kernel_rfl
theorem tWeights : (Tryd.prog.globals[0]?).map (·.type) = some 103 := by kernel_rfl
theorem wts_of_tab {W : World} (h : Lib.TabIs Tryd.prog W "variantproxy/qvalue.weights" .i64 [100, 10, 1]) : Wts W := by
  have c0 : W.cell? ⟨0, 0, none⟩ = some (.int .i64 100) := h.cell gWeights 0 (by decide)
  have c1 : W.cell? ⟨0, 1, none⟩ = some (.int .i64 10) := h.cell gWeights 1 (by decide)
  have c2 : W.cell? ⟨0, 2, none⟩ = some (.int .i64 1) := h.cell gWeights 2 (by decide)
  exact ⟨c0, c1, c2, cell_size c0⟩
/-- the table stands first on the row's list -/
theorem wts_of_laid {rest : List (String × DataW Unit)} {W : World} (h : laidMet Tryd.prog (("variantproxy/qvalue.weights", Lib.tabData .i64 [100, 10, 1]) :: rest) W) : Wts W :=
  wts_of_tab (Lib.tabIs_of_head gWeights tWeights Tryd.underlying103 Tryd.underlying3 (by kernel_rfl) (by kernel_rfl) h)
end
end Go.Proofs.YtnpllgjkbpnimaaDoor.Asc
