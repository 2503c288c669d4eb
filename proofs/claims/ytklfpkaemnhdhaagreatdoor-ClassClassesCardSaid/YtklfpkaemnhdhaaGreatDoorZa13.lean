/- Merged texts: AccPre AccMat LisMine QvaLaid AccLaws KeyMem SelRef2 LanMem SelMem SelRef3. -/
import Derived.Test.YtklfpkaemnhdhaaGreatDoorZa03
import Derived.Test.YtklfpkaemnhdhaaGreatDoorZa05
import Derived.Test.YtklfpkaemnhdhaaGreatDoorZa06
import Derived.Test.YtklfpkaemnhdhaaGreatDoorZa07
import Derived.Test.YtklfpkaemnhdhaaGreatDoorZa09
import Derived.Test.YtklfpkaemnhdhaaGreatDoorZa10
import Derived.Test.YtklfpkaemnhdhaaGreatDoorZa11
import Derived.Test.YtklfpkaemnhdhaaGreatDoorZa12
import Derived.LaidMore
import Derived.Laws.AppendOwnNone
import Derived.Lib.LaidTab
set_option linter.unusedVariables false
set_option linter.unusedSimpArgs false
set_option maxRecDepth 100000
namespace Go.Proofs.YtklfpkaemnhdhaaGreatDoor.Asc
section
open Go.RowKit
set_option maxHeartbeats 2000000 in
theorem mPrefs0_any (k : Int) (a : Option Addr) (cap : Nat) (L : List F) (w : World) (hk : InI64 k) (S : Box (Sm L)) (hv6 : Box (∀ x ∈ getL (nameK k) L, x.size ≤ 65000)) (hmz : Box (∀ m ∈ allL (nameK k) L, m.length ≤ 20000)) (hF : Box (Fs w a L)) (hW : Wts w) :
    Calls Tryz.prog 42 #[.int .i64 k, .slice a L.length cap] w fun e w' => ∃ v, e = .returned (.tuple #[v, .bool (prefsO k L)]) ∧ OwnQ w' w.heap.size v (prefsV k L) ∧ Below w.heap.size w w' := by
  obtain ⟨nm, hnm⟩ : ∃ nm, nameK k = nm := ⟨_, rfl⟩
  have HN := box hnm
  have HT := box hW
  have hnz : nm.size ≤ 15 := by rw [← hnm]; exact name_size k
  have hm65 : Box (nm.size ≤ 65536) := box (by omega)
  have hl := S.out.1
  clear hW
  by_cases h0 : nm = ⟨#[]⟩
  · have HO : Box (prefsO k L = false) := box (by unfold prefsO; rw [hnm, decide_eq_false (by simp [h0]), Bool.false_and])
    have HV : Box (prefsV k L = []) := box (by unfold prefsV; rw [HO.out]; rfl)
    subst h0
    clear hnm
    go_enter Tryz.func42, Tryz.ntmps42
    go_wp2_with fail
    refine (mName0_is hk HN).mono ?_; rintro e w1 ⟨rfl, rfl⟩
    go_wp2
    go_ret2
    exact ⟨_, by rw [HO.out]; rfl, by rw [HV.out]; exact OwnQ.nil _ _, Below.refl _ _⟩
  · have e0 : (nm.toList == []) = false := by
      rw [toList_data, beq_eq_false_iff_ne]
      intro e; apply h0; rw [bs_of nm, e]; rfl
    have HNE : Box (decide (nameK k ≠ ⟨#[]⟩) = true) := box (decide_eq_true (by rw [hnm]; exact h0))
    rw [hnm] at hv6 hmz
    clear h0 hnm
    cases hh : L.any (nmd nm) with
    | false =>
      have HH := box hh
      have HO : Box (prefsO k L = false) := box (by unfold prefsO; rw [HN.out, hh, Bool.and_false])
      have HV : Box (prefsV k L = []) := box (by unfold prefsV; rw [HO.out]; rfl)
      clear hh
      go_enter Tryz.func42, Tryz.ntmps42
      go_wp2_with fail
      refine (mName0_is hk HN).mono ?_; rintro e w1 ⟨rfl, rfl⟩
      go_wp2_with fail
      refine (Has_any a cap L nm _ hl S hm65 hF).mono ?_; rintro e w1 ⟨rfl, hb1⟩; rw [HH.out]
      go_wp2
      go_ret2
      exact ⟨_, by rw [HO.out]; rfl, by rw [HV.out]; exact OwnQ.nil _ _, hb1⟩
    | true =>
      have HH := box hh
      have HO : Box (prefsO k L = true) := box (by unfold prefsO; rw [HNE.out, HN.out, hh]; rfl)
      obtain ⟨A, hA⟩ : ∃ A, allL nm L = A := ⟨_, rfl⟩
      have HV : Box (prefsV k L = A.filterMap (memP k)) := box (by unfold prefsV prefsL; rw [HO.out, HN.out, hA]; rfl)
      have HAB : Box (allB nm L = A.map bs) := box (by unfold allB; rw [hA])
      have hA64 : A.length ≤ 64 := by rw [← hA]; unfold allL; rw [List.length_take]; omega
      have HSZ : Box (∀ j (hj : j < A.length), A[j].length ≤ 20000) := box (fun j hj => by
        have hm : A[j] ∈ allL nm L := by rw [hA]; exact List.getElem_mem hj
        exact hmz.out _ hm)
      clear hh hA
      go_enter Tryz.func42, Tryz.ntmps42
      go_wp2_with fail
      refine (mName0_is hk HN).mono ?_; rintro e w1 ⟨rfl, rfl⟩
      go_wp2_with fail
      refine (Has_any a cap L nm _ hl S hm65 hF).mono ?_; rintro e w1 ⟨rfl, hb1⟩; rw [HH.out]
      have B1 := box hb1
      have F1 := box (hF.out.below hb1)
      clear hb1
      go_wp2_with fail
      refine (mAll_any a cap L nm _ S hv6 hm65 F1).mono ?_; rintro e w2 ⟨v2, rfl, hO2, hb2⟩
      rw [HAB.out] at hO2
      obtain ⟨a2, c2, rfl, hS2, hc2⟩ := hO2.ss
      rw [List.length_map] at hc2 ⊢
      have B2 := box (B1.out.trans (hb2.mono B1.out.size))
      have T2 := box (HT.out.below B2.out)
      have S2 := box hS2
      clear hO2 hb2 hS2
      go_wp2
      go_loopw [7, 26] (fun v i wr => PfRel k A w2 v i wr) (fun _ i _ => A.length - (intOf i).toNat)
      case atStart => exact ⟨0, rfl, Nat.zero_le _, OwnQ.nil _ _, Nat.le_refl _, Below.refl _ _⟩
      case round =>
        obtain ⟨j, rfl, hj, hO, hlen, hbel⟩ := hrel
        obtain ⟨acc, hacc⟩ : ∃ acc, (A.take j).filterMap (memP k) = acc := ⟨_, rfl⟩
        have HACC := box hacc
        rw [hacc] at hO hlen
        obtain ⟨av, cv, rfl, _, _⟩ := hO.qs
        have O0 := box hO
        have BL := box hbel
        have TL := box (T2.out.below hbel)
        have SS := S2.out.below hbel
        clear hO hbel hacc
        by_cases hlt : j < A.length
        · have hji : (j : Int) < (A.length : Int) := by omega
          obtain ⟨m, hm⟩ : ∃ m, A[j] = m := ⟨_, rfl⟩
          have HNX := box (fm_next (k := k) hlt)
          rw [HACC.out, hm] at HNX
          have hmz : (bs m).size ≤ 20000 := by rw [bs_size, ← hm]; exact HSZ.out j hlt
          obtain ⟨g, off, rfl, cA⟩ := SS j (by simpa using hlt)
          have cA' : wr.cell? ⟨g, off + j, none⟩ = some (.string (bs m)) := by rw [cA]; simp [hm]
          obtain ⟨o, ho⟩ : ∃ o, memP k m = o := ⟨_, rfl⟩
          have HO2 : Box (memP k (bs m).data.toList = o) := box ho
          rw [ho] at HNX
          clear cA SS hm ho
          go_wp2_with fail
          refine (mpp_is hk hmz TL.out HO2).mono ?_; rintro e w3 ⟨⟨x, q, b, rfl, hb, hp⟩, hb3⟩
          have O3 := box (own_below O0.out hb3)
          have B3 := box (BL.out.trans (hb3.mono BL.out.size))
          have HB := box hb
          have HPP := box hp
          clear hb3 hb hp cA'
          cases b with
          | false =>
            have HE : Box ((A.take (j + 1)).filterMap (memP k) = acc) := box (by
              rw [HNX.out]
              have h := HB.out
              cases o with
              | none => simp
              | some p => cases h)
            go_wp2
            go_roundw
            case rel => exact ⟨j + 1, by go_num, hlt, by rw [HE.out]; exact own_below O3.out (below_new _ _), by rw [HE.out]; omega, B3.out.alloc B3.out.size _⟩
            case measure => simp [intOf]; omega
          | true =>
            have HE : Box ((A.take (j + 1)).filterMap (memP k) = acc ++ [(x, q)]) := box (by
              rw [HNX.out]
              have h := HB.out
              have h2 := HPP.out
              cases o with
              | none => cases h
              | some p => rw [h2 p rfl])
            go_wp2_with (at_builtin; refine wpList_append_prf _ rfl (.tmp 37) (.tmp 39) rfl w2.heap.size _ acc rfl ?a1 _ _ rfl x q ?b1 ?b2 ?c1 ?d1 ?_)
            case a1 => exact own_below (own_below O3.out (below_new _ _)) (below_new _ _)
            case b1 => go_simp
            case b2 => go_simp
            case c1 => omega
            case d1 => have := B3.out.size; simp; omega
            intro v5 w5 hO5 hb5
            have O5 := box hO5
            have B5 := box (((B3.out.alloc B3.out.size _).alloc (B3.out.alloc B3.out.size _).size _).trans hb5)
            clear hO5 hb5
            go_wp2
            go_roundw
            case rel => exact ⟨j + 1, by go_num, hlt, by rw [HE.out]; exact O5.out, by rw [HE.out, List.length_append]; simp; omega, B5.out⟩
            case measure => simp [intOf]; omega
        · have hji : ¬ (j : Int) < (A.length : Int) := by omega
          have HE : Box (prefsV k L = acc) := box (by rw [HV.out, ← HACC.out, List.take_of_length_le (by omega)])
          clear SS
          go_wp2
          go_ret2
          exact ⟨_, by rw [HO.out]; rfl, by rw [HE.out]; exact own_le O0.out B2.out.size, B2.out.trans (BL.out.mono B2.out.size)⟩
theorem mPrefs_any (k : Int) (a : Option Addr) (cap : Nat) (L : List F) (w : World) (hk : InI64 k) (S : Box (Sm L)) (hv : Box (∀ x ∈ getL (nameK k) L, x.size ≤ 65000)) (hmz : Box (∀ m ∈ allL (nameK k) L, m.length ≤ 20000)) (hF : Box (Fs w a L)) (hW : Wts w) :
    Calls Tryz.prog 42 #[.int .i64 k, .slice a L.length cap] w fun e w' => ∃ p c, e = .returned (.tuple #[.slice p (prefsV k L).length c, .bool (prefsO k L)]) ∧ Qs w' p (prefsV k L) ∧ Below w.heap.size w w' :=
  (mPrefs0_any k a cap L w hk S hv hmz hF hW).mono fun e w' ⟨v, h1, h2, h3⟩ => by
    obtain ⟨p, c, rfl, hQ, _⟩ := h2.qs
    exact ⟨p, c, h1, hQ, h3⟩
end
section
open Go.RowKit
theorem mMed13_is {s : ByteArray} {a b : ByteArray} {L : List F} {q : Bool} {w : World} (hs : s.size ≤ 65000) (h : Box (ofM (mediaL s.data.toList) = (a, b, L) ∧ (mediaL s.data.toList).isSome = q)) :
    Calls Tryz.prog 120 #[.string s] w fun e w' => ∃ p cap, e = .returned (.tuple #[.agg #[.string a, .string b, .slice p L.length cap], .bool q]) ∧ Fs w' p L ∧ Below w.heap.size w w' :=
  (mMedia_any s w hs).mono fun e w' ⟨v, h1, h2, h3⟩ => by
    rw [h.out.1] at h1 h2
    rw [h.out.2] at h1
    obtain ⟨p, cap, rfl, hF, _⟩ := h2.fs
    exact ⟨p, cap, h1, hF, h3⟩
theorem mmatch13_is {a b c d : ByteArray} {p q : Option Addr} {cp cq : Nat} {K L : List F} {i : Int} {w : World} (hk : Box (K.length ≤ 65536)) (hl : Box (L.length ≤ 65536))
    (hzK : Box (∀ i (hi : i < K.length), K[i].1.size ≤ 65536 ∧ K[i].2.size ≤ 65536)) (hzL : Box (∀ i (hi : i < L.length), L[i].1.size ≤ 65536 ∧ L[i].2.size ≤ 65536)) (hK : Fs w p K) (hL : Fs w q L) (h : Box (matchI (a, b, K) (c, d, L) = i)) :
    Calls Tryz.prog 171 #[.agg #[.string a, .string b, .slice p K.length cp], .agg #[.string c, .string d, .slice q L.length cq]] w fun e w' => e = .returned (.int .i64 i) ∧ Below w.heap.size w w' :=
  (mMatch10_any a b c d p q cp cq K L w hk.out hl.out hzK hzL (box hK) (box hL)).mono fun e w' ⟨h1, h2⟩ => ⟨by rw [h1, h.out], h2⟩
set_option maxHeartbeats 1000000 in
theorem mMatMT_any (r v : ByteArray) (w : World) (hr : r.size ≤ 20000) (hv : v.size ≤ 20000) :
    Calls Tryz.prog 153 #[.string r, .string v] w fun e w' => e = .returned (.int .i64 (matchP 1 r.data.toList v.data.toList)) ∧ Below w.heap.size w w' := by
  obtain ⟨⟨a, b, K⟩, h1⟩ : ∃ m, ofM (rangeL r.data.toList) = m := ⟨_, rfl⟩
  obtain ⟨ok, h2⟩ : ∃ q, (rangeL r.data.toList).isSome = q := ⟨_, rfl⟩
  obtain ⟨⟨c, d, L⟩, h3⟩ : ∃ m, ofM (mediaL v.data.toList) = m := ⟨_, rfl⟩
  obtain ⟨is, h4⟩ : ∃ q, (mediaL v.data.toList).isSome = q := ⟨_, rfl⟩
  have HV := box (matchP_acc h1 h2 h3 h4)
  obtain ⟨k1, k2, _, _⟩ := range_len h1
  obtain ⟨l1, l2, _, _⟩ := media_len h3
  have lK : Box (K.length ≤ 65536) := box (by omega)
  have lL : Box (L.length ≤ 65536) := box (by omega)
  have zK : Box (∀ i (hi : i < K.length), K[i].1.size ≤ 65536 ∧ K[i].2.size ≤ 65536) := box (fun i hi => by have := k2 i hi; omega)
  have zL : Box (∀ i (hi : i < L.length), L[i].1.size ≤ 65536 ∧ L[i].2.size ≤ 65536) := box (fun i hi => by have := l2 i hi; omega)
  have H1 := box (And.intro h1 h2)
  have H2 := box (And.intro h3 h4)
  have hr6 : r.size ≤ 65000 := by omega
  have hv6 : v.size ≤ 65000 := by omega
  clear h1 h2 h3 h4 k1 k2 l1 l2
  go_enter Tryz.func153, Tryz.ntmps153
  go_wp2_with fail
  refine (mRange_is hr6 H1).mono ?_; rintro e w1 ⟨p1, c1, rfl, hO1, hb1⟩
  obtain ⟨p9, c9, hv9, hF1, _⟩ := hO1.fs
  cases hv9
  have hnw := below_new w1 (.cells #[.string a, .string b, .slice p1 K.length c1] 77)
  have C1 := box (C3.new (.string a) (.string b) (.slice p1 K.length c1) w1 77)
  have F1 := box (hF1.below hnw)
  have B1 := box (hb1.trans (hnw.mono hb1.size))
  clear hO1 hF1 hb1 hnw
  go_wp2_with fail
  refine (mMed13_is hv6 H2).mono ?_; rintro e w2 ⟨p2, c2, rfl, hF2, hb2⟩
  have hnw := below_new w2 (.cells #[.string c, .string d, .slice p2 L.length c2] 77)
  have N1 := C1.out.next hb2
  have F2 := box ((F1.out.below hb2).below hnw)
  have G2 := box (hF2.below hnw)
  have B2 := box (B1.out.trans ((hb2.trans (hnw.mono hb2.size)).mono B1.out.size))
  have hne : w1.heap.size ≠ w2.heap.size := Nat.ne_of_lt N1.lt
  obtain ⟨⟨s0, s1, s2⟩, _⟩ := N1.next hnw
  obtain ⟨⟨r0, r1, r2⟩, _⟩ := N1
  clear hF2 hb2 hnw
  cases ok with
  | false =>
    have HR : Box (matchP 1 r.data.toList v.data.toList = -1) := box (by rw [HV.out]; rfl)
    go_wp2
    go_ret
    exact ⟨by rw [HR.out]; rfl, B2.out⟩
  | true =>
    cases is with
    | false =>
      have HR : Box (matchP 1 r.data.toList v.data.toList = -1) := box (by rw [HV.out]; rfl)
      go_wp2
      go_ret
      exact ⟨by rw [HR.out]; rfl, B2.out⟩
    | true =>
      have HR : Box (matchI (a, b, K) (c, d, L) = matchP 1 r.data.toList v.data.toList) := box (by rw [HV.out]; rfl)
      go_wp2_with fail
      refine (mmatch13_is lK lL zK zL F2.out G2.out HR).mono ?_; rintro e w3 ⟨rfl, hb3⟩
      have B3 := box (B2.out.trans (hb3.mono B2.out.size))
      clear hb3 r0 r1 r2 s0 s1 s2
      go_wp2
      go_ret
      exact ⟨rfl, B3.out⟩
theorem mMatchC13_is {k i : Int} {r v : ByteArray} {w : World} (hk : InI64 k) (hr : r.size ≤ 20000) (hv : v.size ≤ 20000) (h : Box (matchC k r.data.toList v.data.toList = i)) :
    Calls Tryz.prog 174 #[.int .i64 k, .string r, .string v] w fun e w' => e = .returned (.int .i64 i) ∧ Below w.heap.size w w' :=
  (mMatchC_any k r v w hk (by omega) (by omega)).mono fun e w' ⟨h1, h2⟩ => ⟨by rw [h1, h.out], h2⟩
set_option maxHeartbeats 1000000 in
theorem mMatTok_any (k : Int) (r v : ByteArray) (w : World) (hk : k = 3 ∨ k = 4) (hr : r.size ≤ 20000) (hv : v.size ≤ 20000) :
    Calls Tryz.prog 155 #[.int .i64 k, .string r, .string v] w fun e w' => e = .returned (.int .i64 (matchP k r.data.toList v.data.toList)) ∧ Below w.heap.size w w' := by
  have HV := box (matchP_cod hk r.data.toList v.data.toList)
  have hki : InI64 k := by rcases hk with rfl | rfl <;> exact ⟨by omega, by omega⟩
  have hst := star13 (s := v)
  have hrm : r.size ≤ maxLen := by unfold maxLen; omega
  have hvm : v.size ≤ maxLen := by unfold maxLen; omega
  clear hk
  cases ht : tokL r.data.toList with
  | false =>
    have HT := box ht
    have HR : Box (matchP k r.data.toList v.data.toList = -1) := box (by rw [HV.out, ht]; rfl)
    clear ht hst
    go_enter Tryz.func155, Tryz.ntmps155
    go_wp2_with fail
    refine (aToken_is hrm HT).mono ?_; rintro e w1 ⟨rfl, rfl⟩
    go_wp2
    go_ret
    exact ⟨by rw [HR.out]; rfl, Below.refl _ _⟩
  | true =>
    have HT := box ht
    cases hu : tokL v.data.toList with
    | false =>
      have HU := box hu
      have HR : Box (matchP k r.data.toList v.data.toList = -1) := box (by rw [HV.out, ht, hu]; rfl)
      clear ht hu hst
      go_enter Tryz.func155, Tryz.ntmps155
      go_wp2_with fail
      refine (aToken_is hrm HT).mono ?_; rintro e w1 ⟨rfl, rfl⟩
      go_wp2_with fail
      refine (aToken_is hvm HU).mono ?_; rintro e w1 ⟨rfl, rfl⟩
      go_wp2
      go_ret
      exact ⟨by rw [HR.out]; rfl, Below.refl _ _⟩
    | true =>
      have HU := box hu
      by_cases hs : v.data.toList = [42]
      · have HR : Box (matchP k r.data.toList v.data.toList = -1) := box (by rw [HV.out, ht, hu, decide_eq_false (by simp [hs])]; rfl)
        rw [decide_eq_true hs] at hst
        clear ht hu hs
        go_enter Tryz.func155, Tryz.ntmps155
        go_wp2_with fail
        refine (aToken_is hrm HT).mono ?_; rintro e w1 ⟨rfl, rfl⟩
        go_wp2_with fail
        refine (aToken_is hvm HU).mono ?_; rintro e w1 ⟨rfl, rfl⟩
        go_wp2
        go_ret
        exact ⟨by rw [HR.out]; rfl, Below.refl _ _⟩
      · have HR : Box (matchC k r.data.toList v.data.toList = matchP k r.data.toList v.data.toList) := box (by rw [HV.out, ht, hu, decide_eq_true hs]; rfl)
        rw [decide_eq_false hs] at hst
        clear ht hu hs
        go_enter Tryz.func155, Tryz.ntmps155
        go_wp2_with fail
        refine (aToken_is hrm HT).mono ?_; rintro e w1 ⟨rfl, rfl⟩
        go_wp2_with fail
        refine (aToken_is hvm HU).mono ?_; rintro e w1 ⟨rfl, rfl⟩
        go_wp2_with fail
        refine (mMatchC13_is hki hr hv HR).mono ?_; rintro e w2 ⟨rfl, hb2⟩
        go_wp2
        go_ret
        exact ⟨rfl, hb2⟩
theorem mMatMT_is {r v : ByteArray} {i : Int} {w : World} (hr : r.size ≤ 20000) (hv : v.size ≤ 20000) (h : Box (matchP 1 r.data.toList v.data.toList = i)) :
    Calls Tryz.prog 153 #[.string r, .string v] w fun e w' => e = .returned (.int .i64 i) ∧ Below w.heap.size w w' :=
  (mMatMT_any r v w hr hv).mono fun e w' ⟨h1, h2⟩ => ⟨by rw [h1, h.out], h2⟩
theorem mMatTok_is {k i : Int} {r v : ByteArray} {w : World} (hk : k = 3 ∨ k = 4) (hr : r.size ≤ 20000) (hv : v.size ≤ 20000) (h : Box (matchP k r.data.toList v.data.toList = i)) :
    Calls Tryz.prog 155 #[.int .i64 k, .string r, .string v] w fun e w' => e = .returned (.int .i64 i) ∧ Below w.heap.size w w' :=
  (mMatTok_any k r v w hk hr hv).mono fun e w' ⟨h1, h2⟩ => ⟨by rw [h1, h.out], h2⟩
theorem mMatch13_any (k : Int) (r v : ByteArray) (w : World) (hk : InI64 k) (hr : r.size ≤ 20000) (hv : v.size ≤ 20000) :
    Calls Tryz.prog 124 #[.int .i64 k, .string r, .string v] w fun e w' => e = .returned (.int .i64 (matchP k r.data.toList v.data.toList)) ∧ Below w.heap.size w w' := by
  obtain ⟨i, hi⟩ : ∃ i, matchP k r.data.toList v.data.toList = i := ⟨_, rfl⟩
  rw [hi]
  by_cases h1 : k = 1
  · subst h1
    have HI := box hi
    clear hi
    go_enter Tryz.func124, Tryz.ntmps124
    go_wp2_with fail
    refine (mMatMT_is hr hv HI).mono ?_; rintro e w1 ⟨rfl, hb1⟩
    go_wp2
    go_ret
    exact ⟨rfl, hb1⟩
  · by_cases h2 : k = 2
    · subst h2
      have HI : Box (matchT r.data.toList v.data.toList = i) := box (by rw [← matchP_lan]; exact hi)
      have hr6 : r.size ≤ 65000 := by omega
      have hv6 : v.size ≤ 65000 := by omega
      clear h1 hi
      go_enter Tryz.func124, Tryz.ntmps124
      go_wp2_with fail
      refine (mMatchM_is hr6 hv6 HI).mono ?_; rintro e w1 ⟨rfl, hb1⟩
      go_wp2
      go_ret
      exact ⟨rfl, hb1⟩
    · have HI := box hi
      by_cases h3 : k = 3
      · subst h3
        clear h1 h2 hi
        go_enter Tryz.func124, Tryz.ntmps124
        go_wp2_with fail
        refine (mMatTok_is (.inl rfl) hr hv HI).mono ?_; rintro e w1 ⟨rfl, hb1⟩
        go_wp2
        go_ret
        exact ⟨rfl, hb1⟩
      · by_cases h4 : k = 4
        · subst h4
          clear h1 h2 h3 hi
          go_enter Tryz.func124, Tryz.ntmps124
          go_wp2_with fail
          refine (mMatTok_is (.inr rfl) hr hv HI).mono ?_; rintro e w1 ⟨rfl, hb1⟩
          go_wp2
          go_ret
          exact ⟨rfl, hb1⟩
        · have HV : Box (i = -1) := box (by rw [← hi]; exact matchP_no h1 h2 h3 h4 r.data.toList v.data.toList)
          have e1 : (k == 1) = false := by rw [beq_eq_false_iff_ne]; exact h1
          have e2 : (k == 2) = false := by rw [beq_eq_false_iff_ne]; exact h2
          have e3 : (k == 3) = false := by rw [beq_eq_false_iff_ne]; exact h3
          have e4 : (k == 4) = false := by rw [beq_eq_false_iff_ne]; exact h4
          clear h1 h2 h3 h4 hi
          go_enter Tryz.func124, Tryz.ntmps124
          go_wp2
          go_ret
          exact ⟨by rw [HV.out]; rfl, Below.refl _ _⟩
end
section
open Go.RowKit
theorem sJoin_any (a : Option Addr) (cap : Nat) (L : List ByteArray) (w : World) (hl : L.length ≤ 65536) (hc : L.length ≤ cap) (hz : Box (∀ x ∈ L, x.size ≤ 65536)) (hF : Box (Ss w a L)) :
    Calls Tryz.prog 71 #[.slice a L.length cap, .string ⟨#[44, 32]⟩] w fun e w' => e = .returned (.string (joinB L)) ∧ Below w.heap.size w w' := by
  match L, hl, hc, hz, hF with
  | [], _, _, _, _ => exact (Join0_any a cap w).mono fun e w' ⟨h1, h2⟩ => ⟨h1, h2 ▸ Below.refl _ _⟩
  | [x], _, _, _, hF =>
    obtain ⟨q, off, rfl, c0⟩ := hF.out 0 (Nat.zero_lt_succ 0)
    exact (Join1_any q off cap x w c0).mono fun e w' ⟨h1, h2⟩ => ⟨h1, h2 ▸ Below.refl _ _⟩
  | x :: y :: r, hl, hc, hz, hF =>
    obtain ⟨q, off, rfl, c0⟩ := hF.out 0 (Nat.zero_lt_succ _)
    exact JoinN_any q off cap (x :: y :: r) w (Nat.le_add_left 2 r.length) hl hc hz hF
theorem mJoin_any (a : Option Addr) (cap : Nat) (L : List ByteArray) (w : World) (hl : L.length ≤ 65536) (hc : L.length ≤ cap) (hz : Box (∀ x ∈ L, x.size ≤ 65536)) (hF : Box (Ss w a L)) :
    Calls Tryz.prog 80 #[.slice a L.length cap] w fun e w' => e = .returned (.string (joinB L)) ∧ Below w.heap.size w w' := by
  go_enter Tryz.func80, Tryz.ntmps80
  go_wp2_with fail
  refine (sJoin_any a cap L _ hl hc hz hF).mono ?_; rintro e w1 ⟨rfl, hb⟩
  have B := box hb
  clear hb
  go_wp2
  go_ret
  exact ⟨rfl, B.out⟩
end
section
open Go.RowKit
theorem cell_size {w : World} {a : Addr} {v : Value} (h : w.cell? a = some v) : a.block < w.heap.size := by
  refine Nat.lt_of_not_le fun hle => ?_
  unfold World.cell? at h
  rw [Array.getElem?_eq_none hle] at h
  cases h
theorem gWeights : Tryz.prog.globalNamed "variantproxy/qvalue.weights" = some 0 := by kernel_rfl
theorem tWeights : (Tryz.prog.globals[0]?).map (·.type) = some 163 := by kernel_rfl
theorem wts_of_tab {W : World} (h : Lib.TabIs Tryz.prog W "variantproxy/qvalue.weights" .i64 [100, 10, 1]) : Wts W := by
  have c0 : W.cell? ⟨0, 0, none⟩ = some (.int .i64 100) := h.cell gWeights 0 (by decide)
  have c1 : W.cell? ⟨0, 1, none⟩ = some (.int .i64 10) := h.cell gWeights 1 (by decide)
  have c2 : W.cell? ⟨0, 2, none⟩ = some (.int .i64 1) := h.cell gWeights 2 (by decide)
  exact ⟨c0, c1, c2, cell_size c0⟩
/-- the table stands first on the row's list -/
theorem wts_of_laid {rest : List (String × DataW Unit)} {W : World} (h : laidMet Tryz.prog (("variantproxy/qvalue.weights", Lib.tabData .i64 [100, 10, 1]) :: rest) W) : Wts W :=
  wts_of_tab (Lib.tabIs_of_head gWeights tWeights Tryz.underlying163 Tryz.underlying3 (by kernel_rfl) (by kernel_rfl) h)
end
section
open Go.RowKit
theorem mKind_is {n : ByteArray} {k : Int} {w : World} (hn : n.size ≤ 65536) (h : Box (kindN n = k)) :
    Calls Tryz.prog 107 #[.string n] w fun e w' => e = .returned (.int .i64 k) ∧ Below w.heap.size w w' :=
  (mKind_any n w hn).mono fun e w' ⟨h1, h2⟩ => ⟨by rw [h1, h.out], h2⟩
theorem rKind_is {n : ByteArray} {k : Int} {w : World} (hn : n.size ≤ 4294967296) (h : Box (kindN n = k)) :
    Calls Tryz.prog 27 #[.string n] w fun e w' => e = .returned (.int .i64 k) ∧ Below w.heap.size w w' :=
  (rKind_any n w hn).mono fun e w' ⟨h1, h2⟩ => ⟨by rw [h1, h.out], h2⟩
theorem vals_of {nm : ByteArray} {L : List F} (hv : Box (∀ x ∈ getL nm L, x.size ≤ 20000)) : Box (∀ x ∈ getL nm L, x.size ≤ 65000) := box (fun x hx => by have := hv.out x hx; omega)
theorem mems_of {nm : ByteArray} {L : List F} (hv : Box (∀ x ∈ getL nm L, x.size ≤ 20000)) : Box (∀ m ∈ allL nm L, m.length ≤ 20000) := box (fun m hm => by obtain ⟨x, hx, hle⟩ := all_mem hm; have := hv.out x hx; omega)
theorem mPrefs_is {k : Int} {a : Option Addr} {cap n : Nat} {L : List F} {X : List QP} {o : Bool} {w : World} (hk : InI64 k) (S : Box (Sm L)) (hv : Box (∀ x ∈ getL (nameK k) L, x.size ≤ 20000)) (hF : Fs w a L) (hW : Wts w) (h : Box (prefsV k L = X ∧ prefsO k L = o)) (hn : Box (L.length = n) := by exact box rfl) :
    Calls Tryz.prog 42 #[.int .i64 k, .slice a n cap] w fun e w' => ∃ p c, e = .returned (.tuple #[.slice p X.length c, .bool o]) ∧ Qs w' p X ∧ Below w.heap.size w w' := by
  have := mPrefs_any k a cap L w hk S (vals_of hv) (mems_of hv) (box hF) hW
  rw [h.out.1, h.out.2, hn.out] at this; exact this
theorem rPrefs_is {k : Int} {a : Option Addr} {cap n : Nat} {L : List F} {X : List QP} {o : Bool} {w : World} (hk : InI64 k) (S : Box (Sm L)) (hv : Box (∀ x ∈ getL (nameK k) L, x.size ≤ 20000)) (hF : Fs w a L) (h : Box (prefsV k L = X ∧ prefsO k L = o)) (hn : Box (L.length = n) := by exact box rfl) :
    Calls Tryz.prog 32 #[.int .i64 k, .slice a n cap] w fun e w' => ∃ p c, e = .returned (.tuple #[.slice p X.length c, .bool o]) ∧ Qs w' p X ∧ Below w.heap.size w w' := by
  have := rPrefs_any k a cap L w hk S (vals_of hv) (mems_of hv) (box hF)
  rw [h.out.1, h.out.2, hn.out] at this
  refine this.mono fun e w' ⟨v, h1, h2, h3⟩ => ?_
  obtain ⟨p, c, rfl, hQ, _⟩ := h2.qs
  exact ⟨p, c, h1, hQ, h3⟩
theorem in13 {n : Int} (h : (Lit.int .i64 n).wf = true) : InI64 n := by
  unfold InI64
  simp [Lit.wf, IntKind.min, IntKind.max, IntKind.bits, IntKind.signed] at h
  omega
theorem prefs13_len (k : Int) (L : List F) : (prefsV k L).length ≤ 64 := by
  unfold prefsV
  split
  · unfold prefsL
    refine Nat.le_trans (List.length_filterMap_le _ _) ?_
    unfold allL; rw [List.length_take]; omega
  · simp
end
section
open Go.RowKit Go.ChangeShapes Go.WideShapes Go.Deep
def Kss (w : World) (a : Option Addr) (L : List KY) : Prop :=
  ∀ i (h : i < L.length), ∃ g off v, a = some ⟨g, off, none⟩ ∧ w.cell? ⟨g, off + i, none⟩ = some v ∧ SsV w v L[i]
theorem Kss.below {w w' : World} {a : Option Addr} {L : List KY} (h : Kss w a L) (hb : Below w.heap.size w w') : Kss w' a L := fun i hi => by
  obtain ⟨g, off, v, e, c0, hs⟩ := h i hi
  exact ⟨g, off, v, e, (hb.cell (cell_lt c0)).trans c0, hs.below hb⟩
theorem info_strs : (Tryz.prog.info? 29).map (fun i => (i.zero, i.size, i.bytes)) = some (some (.slice none 0 0), 1, 24) := by kernel_rfl
def CellsK (w : World) (B : Nat) (cs : List Value) (L : List KY) : Prop :=
  cs.length = L.length ∧ (∀ u ∈ cs, u.oneCell' = true) ∧ ∀ i (h : i < L.length), ∃ u, cs[i]? = some u ∧ OwnS w B u L[i]
def OwnK (w : World) (B : Nat) (v : Value) (L : List KY) : Prop := ∃ cs, w.ownsRow B 29 1 v L.length cs ∧ CellsK w B cs L
theorem OwnK.nil (w : World) (B : Nat) : OwnK w B (.slice none 0 0) [] := ⟨[], World.ownsRow_nil _ _ _ _, rfl, by simp, fun i h => absurd h (by simp)⟩
theorem CellsK.next {w w' : World} {B : Nat} {cs : List Value} {L : List KY} (h : CellsK w B cs L) (hb : Below w.heap.size w w') : CellsK w' B cs L :=
  ⟨h.1, h.2.1, fun i hi => by obtain ⟨u, h2, h3⟩ := h.2.2 i hi; exact ⟨u, h2, own_below h3 hb⟩⟩
theorem OwnK.next {w w' : World} {B : Nat} {v : Value} {L : List KY} (h : OwnK w B v L) (hb : Below w.heap.size w w') : OwnK w' B v L := by
  obtain ⟨cs, h1, h2⟩ := h
  exact ⟨cs, own_below h1 hb, h2.next hb⟩
theorem OwnK.le {w : World} {B B' : Nat} {v : Value} {L : List KY} (h : OwnK w B v L) (hB : B' ≤ B) : OwnK w B' v L := by
  obtain ⟨cs, h1, h2⟩ := h
  exact ⟨cs, Go.Joins.ownsRow_le h1 hB, h2.1, h2.2.1, fun i hi => by obtain ⟨u, q2, q3⟩ := h2.2.2 i hi; exact ⟨u, q2, Go.Joins.ownsRow_le q3 hB⟩⟩
theorem OwnK.kss {w : World} {B : Nat} {v : Value} {L : List KY} (h : OwnK w B v L) : ∃ a cap, v = .slice a L.length cap ∧ Kss w a L ∧ L.length ≤ cap := by
  obtain ⟨cs, h, hC⟩ := h
  rcases h.2 with ⟨rfl, hn⟩ | ⟨g, cap, cur, rfl, hB, hg, hc, hm, hs, ht⟩
  · exact ⟨none, 0, by rw [hn], fun i hi => by omega, by omega⟩
  · refine ⟨_, cap, rfl, fun i hi => ?_, hc⟩
    obtain ⟨u, q1, q2⟩ := hC.2.2 i hi
    have hl := hC.1
    rw [← ht] at q1
    rw [List.getElem?_take] at q1
    rw [if_pos (by omega)] at q1
    refine ⟨g, 0, u, rfl, ?_, q2.ssv⟩
    simp only [World.cell?, hg]; simpa using q1
theorem own_grownK {w w' : World} {B n : Nat} {v u : Value} {cs : List Value} {V : List ByteArray} (hv : w.ownsRow B 29 1 v n cs) (hu : OwnS w B u V) (hg : w.grownBy w' v.ownBlock) : OwnS w' B u V := by
  refine ⟨hu.1, ?_⟩
  rcases hu.2 with q | ⟨g, cap, cur, hv2, hB, hgg, r⟩
  · exact .inl q
  · refine .inr ⟨g, cap, cur, hv2, hB, ?_, r⟩
    rw [hg.block g (heap_lt hgg) (fun e => ?_)]
    · exact hgg
    · rcases hv.2 with ⟨rfl, _⟩ | ⟨g2, cap2, cur2, rfl, _, hg2, _⟩
      · simp [Value.ownBlock] at e
      · simp [Value.ownBlock] at e
        subst e
        rw [hgg] at hg2
        simp at hg2
theorem CellsK.grown {w w' : World} {B n : Nat} {v : Value} {xs cs : List Value} {L : List KY} (h : CellsK w B cs L) (hv : w.ownsRow B 29 1 v n xs) (hg : w.grownBy w' v.ownBlock) : CellsK w' B cs L :=
  ⟨h.1, h.2.1, fun i hi => by obtain ⟨u, h2, h3⟩ := h.2.2 i hi; exact ⟨u, h2, own_grownK hv h3 hg⟩⟩
theorem CellsK.more {w : World} {B : Nat} {cs : List Value} {L : List KY} {u : Value} {V : List ByteArray} (h : CellsK w B cs L) (hu : OwnS w B u V) : CellsK w B (cs ++ [u]) (L ++ [V]) := by
  have hone : u.oneCell' = true := by obtain ⟨a, c, e, _⟩ := hu.ss; rw [e]; rfl
  refine ⟨by rw [List.length_append, List.length_append, h.1]; rfl, fun x hx => ?_, fun i hi => ?_⟩
  · rcases List.mem_append.1 hx with q | q
    · exact h.2.1 x q
    · rw [List.mem_singleton.1 q]; exact hone
  · by_cases e : i < L.length
    · obtain ⟨y, h2, h3⟩ := h.2.2 i e
      have hl := h.1
      rw [List.getElem_append_left e, List.getElem?_append_left (by omega)]
      exact ⟨y, h2, h3⟩
    · have hie : i = L.length := by rw [List.length_append] at hi; simp at hi; omega
      subst hie
      have hl := h.1
      rw [List.getElem_append_right (Nat.le_refl _), List.getElem?_append_right (by omega)]
      rw [show L.length - cs.length = 0 from by omega]
      simp only [Nat.sub_self]
      exact ⟨u, rfl, hu⟩
/-- two slices that do not lie in one block -/
def ApartK (v z : Value) : Prop := ∀ k, v.ownBlock = some k → z.ownBlock ≠ some k
theorem OwnK.lt {w : World} {B : Nat} {v : Value} {L : List KY} (h : OwnK w B v L) (k : Nat) (hk : v.ownBlock = some k) : k < w.heap.size := by
  obtain ⟨cs, h1, _⟩ := h
  exact (World.ownsRow.lt h1 k hk).2
theorem OwnK.grown {w w' : World} {B n : Nat} {v z : Value} {xs : List Value} {K : List KY} (h : OwnK w B z K) (hv : w.ownsRow B 29 1 v n xs) (hA : ApartK v z) (hg : w.grownBy w' v.ownBlock) : OwnK w' B z K := by
  obtain ⟨cs, h1, h2⟩ := h
  refine ⟨cs, ⟨h1.1, ?_⟩, h2.grown hv hg⟩
  rcases h1.2 with q | ⟨g, cap, cur, hv2, hB, hgg, r⟩
  · exact .inl q
  · refine .inr ⟨g, cap, cur, hv2, hB, ?_, r⟩
    rw [hg.block g (heap_lt hgg) (fun e => ?_)]
    · exact hgg
    · exact hA g e.symm (by rw [hv2]; rfl)
/-- append of one key that lies in a block of its own -/
theorem wpList_append_key (w : World) {ops : Array Oper} {rest : List Oper} {o : Oper} {a : Act} {Q : Exit → Act → World → Prop} (hgd : o.guard = none) (s x : Operand)
    (ho : o.op = .call { callee := .builtin .append, args := #[s, x], argTypes := #[35, 35] })
    (B : Nat) (v : Value) (L : List KY) (hs : a.eval s = v) (hown : OwnK w B v L)
    (g : Nat) (c : Nat) (hx : a.eval x = .slice (some ⟨g, 0, none⟩) 1 c) (u : Value) (V : KY) (h0 : w.cell? ⟨g, 0, none⟩ = some u) (hu : OwnS w B u V) (hl : L.length ≤ 65536) (hB : B ≤ w.heap.size)
    (h : ∀ v' w', OwnK w' B v' (L ++ [V]) → Below B w w' → OwnS w' B u V → (∀ z K, OwnK w B z K → ApartK v z → OwnK w' B z K ∧ ApartK v' z) → wpList Tryz.prog ops Q rest (a.put o.dst v') w') : wpList Tryz.prog ops Q (o :: rest) a w := by
  obtain ⟨i0, hi0, hz0, hz1, hz2⟩ := info_parts info_strs
  obtain ⟨cs, hown, hC⟩ := hown
  have hone : u.oneCell' = true := by obtain ⟨b, c, e, _⟩ := hu.ss; rw [e]; rfl
  refine wpList_append_lies (P := Tryz.prog) w hgd s x 35 ho B 29 i0 _ 1 24 Tryz.underlying35 hi0 hz0 hz1 hz2 rfl (by decide) v L.length cs hs hown ⟨g, 0, none⟩ 1 c [u] hx rfl ?_ ?_ (by omega) (by unfold maxLen; omega) (by omega) hB _ rfl ?_
  · intro j y hj
    match j, hj with
    | 0, hj => simp at hj; subst hj; simpa [Addr.add] using h0
  · intro y hy; simp at hy; subst hy; exact hone
  · intro g' cap' w' q1 q2 q3 _
    have hu' := own_grownK hown hu q2
    refine h _ w' ⟨cs ++ [u], by rw [List.length_append]; exact q1, (hC.grown hown q2).more hu'⟩ ((Below.refl _ _).grown q2 hB (fun k hk => own_block hown k hk)) hu' (fun z K hz hA => ⟨hz.grown hown hA q2, fun k hk e => ?_⟩)
    simp [Value.ownBlock] at hk
    subst hk
    rcases q3 with q3 | q3
    · exact hA _ q3 e
    · have := hz.lt _ e
      omega
end
section
open Go.RowKit
/-- fields small enough -/
def FitL (L : List F) : Prop := Sm L ∧ ∀ nm, ∀ x ∈ getL nm L, x.size ≤ 9000
theorem kindN_in (n : ByteArray) : 0 ≤ kindN n ∧ kindN n ≤ 4 := by
  unfold kindN
  split
  · omega
  · split
    · omega
    · split
      · omega
      · split <;> omega
theorem kindN_i64 (n : ByteArray) : InI64 (kindN n) := by
  have := kindN_in n
  unfold InI64
  omega
theorem prefs17_len (k : Int) (L : List F) : (prefsV k L).length ≤ 65536 := by have := prefs13_len k L; omega
theorem prefs17_small {k : Int} {L : List F} (h : ∀ nm, ∀ x ∈ getL nm L, x.size ≤ 9000) : ∀ i (hi : i < (prefsV k L).length), (prefsV k L)[i].1.size ≤ 20000 := by
  intro i hi
  have hp := List.getElem_mem hi
  obtain ⟨p, hpe⟩ : ∃ p, (prefsV k L)[i] = p := ⟨_, rfl⟩
  rw [hpe] at hp ⊢
  unfold prefsV at hp
  split at hp
  · unfold prefsL at hp
    obtain ⟨m, hm, hmp⟩ := List.mem_filterMap.1 hp
    obtain ⟨x, hx, hle⟩ := all_mem hm
    have h1 := h _ x hx
    have h2 := (again hmp).2.2
    omega
  · cases hp
theorem FitL.vals {L : List F} (h : FitL L) (nm : ByteArray) : ∀ x ∈ getL nm L, x.size ≤ 20000 := fun x hx => by have := h.2 nm x hx; omega
theorem rPrefs17_is {k : Int} {a : Option Addr} {cap n : Nat} {L : List F} {X : List QP} {o : Bool} {w : World} (hk : InI64 k) (FL : Box (FitL L)) (hF : Fs w a L) (h : Box (prefsV k L = X ∧ prefsO k L = o)) (hn : Box (L.length = n) := by exact box rfl) :
    Calls Tryz.prog 32 #[.int .i64 k, .slice a n cap] w fun e w' => ∃ p c, e = .returned (.tuple #[.slice p X.length c, .bool o]) ∧ Qs w' p X ∧ Below w.heap.size w w' :=
  rPrefs_is hk (box FL.out.1) (box (FL.out.vals _)) hF h hn
theorem rAll17_is {a : Option Addr} {cap n : Nat} {L : List F} {nm : ByteArray} {M : List ByteArray} {w : World} (FL : Box (FitL L)) (hm : nm.size ≤ 65536) (hF : Fs w a L) (h : Box (allB nm L = M)) (hn : Box (L.length = n) := by exact box rfl) :
    Calls Tryz.prog 30 #[.slice a n cap, .string nm] w fun e w' => ∃ v, e = .returned v ∧ OwnS w' w.heap.size v M ∧ Below w.heap.size w w' := by
  have := rAll_any a cap L nm w (box FL.out.1) (vals_of (box (FL.out.vals nm))) (box hm) (box hF)
  rw [h.out, hn.out] at this; exact this
theorem rJoin17_is {a : Option Addr} {cap : Nat} {L : List ByteArray} {x : ByteArray} {w : World} (hl : L.length ≤ 65536) (hz : Box (∀ x ∈ L, x.size ≤ 65536)) (hF : Ss w a L) (h : Box (joinB L = x)) :
    Calls Tryz.prog 74 #[.slice a L.length cap] w fun e w' => e = .returned (.string x) ∧ w = w' :=
  (rJoin7_any a cap L w hl hz (box hF)).mono fun e w' ⟨h1, h2⟩ => ⟨by rw [h1, h.out], h2⟩
theorem allB_len (nm : ByteArray) (L : List F) : (allB nm L).length ≤ 64 := by unfold allB allL; rw [List.length_map, List.length_take]; omega
theorem allB_small {nm : ByteArray} {L : List F} (hv : ∀ x ∈ getL nm L, x.size ≤ 20000) : ∀ x ∈ allB nm L, x.size ≤ 65536 := by
  intro y hy
  unfold allB at hy
  obtain ⟨m, hm, rfl⟩ := List.mem_map.1 hy
  obtain ⟨x, hx, hle⟩ := all_mem hm
  have := hv x hx
  rw [bs_size]; omega
theorem rRank17_is {k : Int} {a b : Option Addr} {cap cb n : Nat} {L : List QP} {present : Bool} {V R : List ByteArray} {w : World} {qf : ByteArray → Int} (hk : InI64 k) (hl : L.length ≤ 65536) (hz : Box (∀ i (hi : i < L.length), L[i].1.size ≤ 20000)) (hvl : V.length ≤ 65536) (hvz : Box (∀ i (hi : i < V.length), V[i].size ≤ 20000)) (hF : Qs w a L) (hS : Ss w b V) (HQF : Box (∀ v : ByteArray, qualR k L present v.data.toList = qf v)) (hR : Box (rankQ qf V = R)) (hn : Box (V.length = n)) :
    Calls Tryz.prog 73 #[.int .i64 k, .slice a L.length cap, .bool present, .slice b n cb] w fun e w' => OwnPost w R e w' := by
  have := rRank_any k a b cap cb L present V w qf hk hl hz hvl hvz (box hF) (box hS) HQF
  rw [hR.out, hn.out] at this; exact this
theorem rVAx17_is {n : ByteArray} {b : Option Addr} {c m : Nat} {V : List ByteArray} {q : Bool} {w : World} (hn : n.size ≤ 65000) (hl : V.length ≤ 65536) (hz : Box (∀ i (hi : i < V.length), V[i].size ≤ 20000)) (hF : Ss w b V) (h : Box (validA (n, V) = q)) (hm : Box (V.length = m)) :
    Calls Tryz.prog 55 #[.agg #[.string n, .slice b m c]] w fun e w' => e = .returned (.bool q) ∧ Below w.heap.size w w' := by
  have := rValidAxis_any n b c V w hn hl (box (fun i hi => by have := hz.out i hi; omega)) (box hF)
  rw [h.out, hm.out] at this; exact this
def FiRel (V : List ByteArray) (h : ByteArray) (W : World) (v i : Value) (wr : World) : Prop :=
  ∃ j : Nat, i = .int .i64 j ∧ j ≤ V.length ∧ OwnS wr W.heap.size v ((V.take j).filter fun v => decide (v = h)) ∧ Box (Below W.heap.size W wr)
theorem fil_more {V : List ByteArray} {h : ByteArray} {j : Nat} (hj : j < V.length) : (V.take (j + 1)).filter (fun v => decide (v = h)) = (V.take j).filter (fun v => decide (v = h)) ++ (if V[j] = h then [h] else []) := by
  rw [List.take_succ_eq_append_getElem hj, List.filter_append, List.filter_cons, List.filter_nil]
  by_cases e : V[j] = h
  · rw [if_pos (decide_eq_true e), if_pos e, e]
  · rw [if_neg (c := decide (V[j] = h) = true) (by simp [e]), if_neg e]
theorem ss_one17 (x : ByteArray) (w : World) : OwnS (w.alloc (.cells #[.string x] 9)) w.heap.size (.slice (some ⟨w.heap.size, 0, none⟩) 1 1) [x] := by
  refine ⟨rfl, .inr ⟨w.heap.size, 1, #[.string x], rfl, Nat.le_refl _, heap_alloc_new w _, Nat.le_refl _, by unfold maxLen; omega, rfl, rfl⟩⟩
set_option maxHeartbeats 4000000 in
theorem rRanked_any (n : ByteArray) (b : Option Addr) (c : Nat) (V : List ByteArray) (a : Option Addr) (cap : Nat) (L : List F) (st : Bool) (w : World) (hn : n.size ≤ 20000) (hl : V.length ≤ 65536) (hz : Box (∀ i (hi : i < V.length), V[i].size ≤ 20000)) (FL : Box (FitL L)) (hV : Box (Ss w b V)) (hF : Box (Fs w a L)) :
    Calls Tryz.prog 39 #[.agg #[.string n, .slice b V.length c], .slice a L.length cap, .bool st] w fun e w' => OwnPost w (rankS (n, V) L st) e w' := by
  obtain ⟨R, hR⟩ : ∃ R, rankS (n, V) L st = R := ⟨_, rfl⟩
  rw [hR]
  obtain ⟨nv, hnv⟩ : ∃ nv, V.length = nv := ⟨_, rfl⟩
  have HNV := box hnv
  rw [hnv]
  have hnv6 : nv ≤ 65536 := by omega
  have n65 : n.size ≤ 65000 := by omega
  have n65b : n.size ≤ 65536 := by omega
  have n4 : n.size ≤ 4294967296 := by omega
  have C0 := box (C2.new (.string n) (.slice b nv c) w 39)
  have B0 := box (below_new w (.cells #[.string n, .slice b nv c] 39))
  obtain ⟨w0, hw0⟩ : ∃ w0, w.alloc (.cells #[.string n, .slice b nv c] 39) = w0 := ⟨_, rfl⟩
  have HW0 := box hw0
  rw [hw0] at C0 B0
  have hs0 := B0.out.size
  have V0 := box (hV.out.below B0.out)
  have F0 := box (hF.out.below B0.out)
  have hv6 : V.length ≤ 65536 := hl
  cases hva : validA (n, V) with
  | false =>
    have HVA := box hva
    have HR : Box (R = []) := box (by rw [← hR, rankS_bad hva])
    have c00 := C0.out.1.1
    have c01 := C0.out.1.2
    clear hva hR hnv hl hw0
    go_enter Tryz.func39, Tryz.ntmps39
    go_wp2_with fail
    rw [HW0.out]
    refine (rVAx17_is n65 hv6 hz V0.out HVA HNV).mono ?_; rintro e w1 ⟨rfl, hb1⟩
    have B1 := box (B0.out.trans (hb1.mono hs0))
    clear hb1
    go_wp2
    go_ret
    exact ⟨_, rfl, by rw [HR.out]; exact OwnS.nil _ _, B1.out⟩
  | true =>
    have HVA := box hva
    obtain ⟨A, hA⟩ : ∃ A, accS (n, V) L = A := ⟨_, rfl⟩
    have hv1 := (validA_len hva).1
    have HRD : Box (A = [] → st = false → R = [atS V 0]) := box (fun h1 h2 => by subst h2; rw [← hR]; exact rankS_dflt hva (hA.trans h1))
    have HRA : Box (A ≠ [] ∨ st = true → R = A) := box (fun h => by rw [← hR, ← hA]; exact rankS_acc hva (by rw [hA]; exact h))
    obtain ⟨k, hk⟩ : ∃ k, kindN n = k := ⟨_, rfl⟩
    have HK := box hk
    have hki : InI64 k := by rw [← hk]; exact kindN_i64 n
    have hv0 : 0 < nv := by rw [← hnv]; exact hv1
    have HAL : Box (A.length ≤ nv) := box (by rw [← hA, ← hnv]; exact acc_len _ _)
    by_cases hk0 : k = 0
    · obtain ⟨M, hM⟩ : ∃ M, allB n L = M := ⟨_, rfl⟩
      have HM := box hM
      have hml : M.length ≤ 65536 := by rw [← hM]; have := allB_len n L; omega
      have HMz : Box (∀ x ∈ M, x.size ≤ 65536) := box (by rw [← hM]; exact allB_small (FL.out.vals n))
      obtain ⟨h, hh⟩ : ∃ h, joinB M = h := ⟨_, rfl⟩
      have HJ := box hh
      have HAF : Box (V.filter (fun v => decide (v = h)) = A) := box (by rw [← hA, ← hh, ← hM]; unfold accS; rw [if_pos (by show kindN n = 0; rw [hk, hk0])])
      subst hk0
      have c00 := C0.out.1.1
      have c01 := C0.out.1.2
      clear hva hR hA hk hM hh hnv hl hw0
      go_enter Tryz.func39, Tryz.ntmps39
      go_wp2_with fail
      rw [HW0.out]
      refine (rVAx17_is n65 hv6 hz V0.out HVA HNV).mono ?_; rintro e w1 ⟨rfl, hb1⟩
      have B1 := box hb1
      have C1 := box (C0.out.below B1.out C0.out.lt)
      have V1 := box (V0.out.below hb1)
      have F1 := box (F0.out.below hb1)
      have d00 := C1.out.1.1
      have d01 := C1.out.1.2
      clear hb1 c00 c01
      go_wp2_with fail
      refine (rKind_is n4 HK).mono ?_; rintro e w2 ⟨rfl, hb2⟩
      have B2 := box (B1.out.trans (hb2.mono B1.out.size))
      have C2 := box (C0.out.below B2.out C0.out.lt)
      have V2 := box (V1.out.below hb2)
      have F2 := box (F1.out.below hb2)
      have e00 := C2.out.1.1
      have e01 := C2.out.1.2
      clear hb2 d00 d01
      go_wp2_with fail
      refine (rAll17_is FL n65b F2.out HM).mono ?_; rintro e w3 ⟨v3, rfl, hO3, hb3⟩
      obtain ⟨a3, c3, rfl, hS3, _⟩ := hO3.ss
      have B3 := box (B2.out.trans (hb3.mono B2.out.size))
      have C3 := box (C0.out.below B3.out C0.out.lt)
      have V3 := box (V2.out.below hb3)
      have f00 := C3.out.1.1
      have f01 := C3.out.1.2
      have S3 := box hS3
      clear hb3 e00 e01 hO3 hS3
      go_wp2_with fail
      refine (rJoin17_is hml HMz S3.out HJ).mono ?_; rintro e w4 ⟨rfl, rfl⟩
      go_wp2
      go_loopw [7, 12] (fun v i wr => FiRel V h w0 v i wr) (fun _ i _ => nv - (intOf i).toNat)
      case atStart => exact ⟨0, rfl, Nat.zero_le _, OwnS.nil _ _, B3⟩
      case round =>
        obtain ⟨j, rfl, hj, hO, BL⟩ := hrel
        have CL := box (C0.out.below BL.out C0.out.lt)
        have O0 := box hO
        obtain ⟨oa, oc, rfl, _, hoc⟩ := hO.ss
        obtain ⟨r, hr⟩ : ∃ r, (V.take j).filter (fun v => decide (v = h)) = r := ⟨_, rfl⟩
        rw [hr] at O0 hoc ⊢
        have hrl : r.length ≤ 65536 := by
          rw [← hr]
          have := List.length_filter_le (fun v => decide (v = h)) (V.take j)
          rw [List.length_take] at this; omega
        have g00 := CL.out.1.1
        have g01 := CL.out.1.2
        have hbs := BL.out.size
        clear hO f00 f01
        by_cases hjl : j < nv
        · have hji : (j : Int) < (nv : Int) := by omega
          have hj0 : (0 : Int) ≤ (j : Int) := by omega
          have hjv : j < V.length := by have := HNV.out; omega
          obtain ⟨x, hx⟩ : ∃ x, V[j] = x := ⟨_, rfl⟩
          obtain ⟨g, off, rfl, c0⟩ := (V0.out.below BL.out) j hjv
          rw [hx] at c0
          have hne := ne_toList x h
          rcases hq : (x.toList == h.toList) with _ | _
          · have HN2 : Box ((V.take (j + 1)).filter (fun v => decide (v = h)) = r) := box (by
              rw [hq] at hne
              rw [fil_more hjv, hr, hx, if_neg (fun e => by rw [e] at hq; simp at hq), List.append_nil])
            clear hne hx hr
            go_wp2
            go_roundw
            case rel => exact ⟨j + 1, by go_num, by omega, by rw [HN2.out]; exact O0.out, BL⟩
            case measure => simp [intOf]; omega
          · have HN2 : Box ((V.take (j + 1)).filter (fun v => decide (v = h)) = r ++ [h]) := box (by
              rw [fil_more hjv, hr, hx, if_pos (str_eq hq)])
            clear hne hx hr
            go_wp2_with (at_builtin; refine wpList_append_str _ rfl (.tmp 52) (.tmp 54) rfl w0.heap.size _ r rfl ?a1 _ _ rfl h ?b1 ?c1 ?d1 ?_)
            case a1 => exact own_below O0.out (below_new _ _)
            case b1 => exact (World.cell?_alloc_at (w := wr) #[.string h] 9 wr.heap.size 0 rfl).trans rfl
            case c1 => exact hrl
            case d1 => first | omega | (simp; omega)
            intro v5 w5 hO5 hb5
            have O5 := box hO5
            have B5 := box ((BL.out.alloc hbs _).trans hb5)
            clear hO5 hb5
            go_wp2
            go_roundw
            case rel => exact ⟨j + 1, by go_num, by omega, by rw [HN2.out]; exact O5.out, B5⟩
            case measure => simp [intOf]; omega
        · have hji : ¬ (j : Int) < (nv : Int) := by omega
          have HRE : Box (r = A) := box (by rw [← hr, show j = V.length from by have := HNV.out; omega, List.take_length]; exact HAF.out)
          clear hr
          have HRE2 := HRE.out
          subst HRE2
          have CT := CL
          have BT := BL
          have OT := O0
          have t00 := CT.out.1.1
          have t01 := CT.out.1.2
          have hbt := BT.out.size
          have BR := box (B0.out.trans (BT.out.mono hs0))
          clear CT
          by_cases hA0 : r.length = 0
          · have HA0 : Box (r = []) := box (List.length_eq_zero_iff.1 hA0)
            rw [hA0]
            cases st with
            | false =>
              have HRX : Box (R = [atS V 0]) := box (HRD.out HA0.out rfl)
              obtain ⟨g1, off1, rfl, c1⟩ := (V0.out.below BT.out) 0 (by have := HNV.out; omega)
              obtain ⟨x0, hx0⟩ : ∃ x0, V[0]'(by have := HNV.out; omega) = x0 := ⟨_, rfl⟩
              have HX0 : Box (atS V 0 = x0) := box (by rw [atS_is (by have := HNV.out; omega)]; exact hx0)
              rw [hx0, Nat.add_zero] at c1
              have hv0i : (0 : Int) < (nv : Int) := by omega
              clear hx0 hA0
              go_wp2
              go_ret
              exact ⟨_, rfl, by rw [HRX.out, HX0.out]; exact Go.Joins.ownsRow_le (ss_one17 _ _) (Nat.le_trans hs0 hbt), BR.out.alloc BR.out.size _⟩
            | true =>
              have HRX : Box (R = r) := box (HRA.out (.inr rfl))
              have hR0 : r.length = 0 := hA0
              go_wp2
              go_ret
              exact ⟨_, rfl, by rw [HRX.out, ← hA0]; exact Go.Joins.ownsRow_le OT.out hs0, BR.out⟩
          · have HRX : Box (R = r) := box (HRA.out (.inl (fun h => hA0 (by rw [h]; rfl))))
            have hai : ((r.length : Int) == 0) = false := by rw [beq_eq_false_iff_ne]; omega
            go_wp2
            go_ret
            exact ⟨_, rfl, by rw [HRX.out]; exact Go.Joins.ownsRow_le OT.out hs0, BR.out⟩
    · have hke : (k == 0) = false := by rw [beq_eq_false_iff_ne]; exact hk0
      obtain ⟨X, hX⟩ : ∃ X, prefsV k L = X := ⟨_, rfl⟩
      obtain ⟨o, ho⟩ : ∃ o, prefsO k L = o := ⟨_, rfl⟩
      have HP : Box (prefsV k L = X ∧ prefsO k L = o) := box ⟨hX, ho⟩
      have hxl : X.length ≤ 65536 := by rw [← hX]; exact prefs17_len _ _
      have HXz : Box (∀ i (hi : i < X.length), X[i].1.size ≤ 20000) := box (by rw [← hX]; exact prefs17_small FL.out.2)
      have HQF : Box (∀ v : ByteArray, qualR k X o v.data.toList = qlS (n, V) L v) := box (fun v => by unfold qlS; rw [hk, hX, ho])
      have HRK : Box (rankQ (qlS (n, V) L) V = A) := box (by rw [← hA]; unfold accS; rw [if_neg (by show ¬ kindN n = 0; rw [hk]; exact hk0)])
      have c00 := C0.out.1.1
      have c01 := C0.out.1.2
      clear hva hR hA hk hX ho hnv hl hw0
      go_enter Tryz.func39, Tryz.ntmps39
      go_wp2_with fail
      rw [HW0.out]
      refine (rVAx17_is n65 hv6 hz V0.out HVA HNV).mono ?_; rintro e w1 ⟨rfl, hb1⟩
      have B1 := box hb1
      have C1 := box (C0.out.below B1.out C0.out.lt)
      have V1 := box (V0.out.below hb1)
      have F1 := box (F0.out.below hb1)
      have d00 := C1.out.1.1
      have d01 := C1.out.1.2
      clear hb1 c00 c01
      go_wp2_with fail
      refine (rKind_is n4 HK).mono ?_; rintro e w2 ⟨rfl, hb2⟩
      have B2 := box (B1.out.trans (hb2.mono B1.out.size))
      have C2 := box (C0.out.below B2.out C0.out.lt)
      have V2 := box (V1.out.below hb2)
      have F2 := box (F1.out.below hb2)
      have e00 := C2.out.1.1
      have e01 := C2.out.1.2
      clear hb2 d00 d01
      go_wp2_with fail
      refine (rPrefs17_is hki FL F2.out HP).mono ?_; rintro e w3 ⟨p3, c3, rfl, hQ3, hb3⟩
      have B3 := box (B2.out.trans (hb3.mono B2.out.size))
      have C3 := box (C0.out.below B3.out C0.out.lt)
      have V3 := box (V2.out.below hb3)
      have f00 := C3.out.1.1
      have f01 := C3.out.1.2
      have Q3 := box hQ3
      clear hb3 e00 e01 hQ3
      go_wp2_with fail
      refine (rRank17_is hki hxl HXz hv6 hz Q3.out V3.out HQF HRK HNV).mono ?_; rintro e w4 ⟨v4, rfl, hO4, hb4⟩
      have BT := box (B3.out.trans (hb4.mono B3.out.size))
      have CT := box (C0.out.below BT.out C0.out.lt)
      have OT := box (show OwnS w4 w0.heap.size v4 A from Go.Joins.ownsRow_le hO4 B3.out.size)
      obtain ⟨oa, oc, rfl, _, hoc⟩ := hO4.ss
      clear hb4 hO4 f00 f01
      have t00 := CT.out.1.1
      have t01 := CT.out.1.2
      have hbt := BT.out.size
      have BR := box (B0.out.trans (BT.out.mono hs0))
      clear CT
      by_cases hA0 : A.length = 0
      · have HA0 : Box (A = []) := box (List.length_eq_zero_iff.1 hA0)
        rw [hA0]
        cases st with
        | false =>
          have HRX : Box (R = [atS V 0]) := box (HRD.out HA0.out rfl)
          obtain ⟨g1, off1, rfl, c1⟩ := (V0.out.below BT.out) 0 (by have := HNV.out; omega)
          obtain ⟨x0, hx0⟩ : ∃ x0, V[0]'(by have := HNV.out; omega) = x0 := ⟨_, rfl⟩
          have HX0 : Box (atS V 0 = x0) := box (by rw [atS_is (by have := HNV.out; omega)]; exact hx0)
          rw [hx0, Nat.add_zero] at c1
          have hv0i : (0 : Int) < (nv : Int) := by omega
          clear hx0 hA0
          go_wp2
          go_ret
          exact ⟨_, rfl, by rw [HRX.out, HX0.out]; exact Go.Joins.ownsRow_le (ss_one17 _ _) (Nat.le_trans hs0 hbt), BR.out.alloc BR.out.size _⟩
        | true =>
          have HRX : Box (R = A) := box (HRA.out (.inr rfl))
          have hR0 : A.length = 0 := hA0
          go_wp2
          go_ret
          exact ⟨_, rfl, by rw [HRX.out, ← hA0]; exact Go.Joins.ownsRow_le OT.out hs0, BR.out⟩
      · have HRX : Box (R = A) := box (HRA.out (.inl (fun h => hA0 (by rw [h]; rfl))))
        have hai : ((A.length : Int) == 0) = false := by rw [beq_eq_false_iff_ne]; omega
        go_wp2
        go_ret
        exact ⟨_, rfl, by rw [HRX.out]; exact Go.Joins.ownsRow_le OT.out hs0, BR.out⟩
end
section
open Go.RowKit
def intV (n : Nat) : Value := .int .i64 (n : Int)
/-- ints at an address -/
def Is (w : World) (a : Option Addr) (L : List Nat) : Prop := ∀ i (h : i < L.length), ∃ g off, a = some ⟨g, off, none⟩ ∧ w.cell? ⟨g, off + i, none⟩ = some (intV L[i])
theorem Is.below {w w' : World} {a : Option Addr} {L : List Nat} (h : Is w a L) (hb : Below w.heap.size w w') : Is w' a L := fun i hi => by
  obtain ⟨g, off, e, c0⟩ := h i hi
  exact ⟨g, off, e, (hb.cell (cell_lt c0)).trans c0⟩
theorem info_int : (Tryz.prog.info? 3).map (fun i => (i.zero, i.size, i.bytes)) = some (some (.int .i64 0), 1, 8) := by kernel_rfl
def OwnI (w : World) (B : Nat) (v : Value) (L : List Nat) : Prop := w.ownsRow B 3 1 v L.length (L.map intV)
theorem OwnI.nil (w : World) (B : Nat) : OwnI w B (.slice none 0 0) [] := World.ownsRow_nil _ _ _ _
theorem OwnI.is {w : World} {B : Nat} {v : Value} {L : List Nat} (h : OwnI w B v L) : ∃ a cap, v = .slice a L.length cap ∧ Is w a L ∧ L.length ≤ cap := by
  rcases h.2 with ⟨rfl, hn⟩ | ⟨g, cap, cur, rfl, hB, hg, hc, hm, hs, ht⟩
  · exact ⟨none, 0, by rw [hn], fun i hi => by omega, by omega⟩
  · refine ⟨_, cap, rfl, fun i hi => ⟨g, 0, rfl, ?_⟩, hc⟩
    have q0 : (L.map intV)[i]? = some (intV L[i]) := by simp [hi]
    rw [← ht, List.getElem?_take, if_pos (by omega)] at q0
    simp only [World.cell?, hg]
    simpa using q0
/-- a row of bools at a block's start -/
def Bo (w : World) (g : Nat) (U : List Bool) : Prop := ∀ i (h : i < U.length), w.cell? ⟨g, i, none⟩ = some (.bool U[i]) ∧ w.frozen? ⟨g, i, none⟩ = false
theorem Bo.below {w w' : World} {g B : Nat} {U : List Bool} (h : Bo w g U) (hb : Below B w w') (hg : g < B) : Bo w' g U := fun i hi =>
  ⟨(hb.cell hg).trans (h i hi).1, (hb.frozen hg).trans (h i hi).2⟩
theorem Bo.set {w : World} {g k : Nat} {U : List Bool} (h : Bo w g U) (hk : k < U.length) (b : Bool) : Bo (w.setCell ⟨g, k, none⟩ (.bool b)) g (U.set k b) := fun i hi => by
  have hi2 : i < U.length := by simpa using hi
  refine ⟨?_, by rw [World.frozen?_setCell]; exact (h i hi2).2⟩
  by_cases e : i = k
  · subst e
    rw [World.cell?_setCell_same (h := (h i hi2).1)]
    simp
  · rw [World.cell?_setCell_other _ _ _ _ (by intro q; cases q; exact e rfl), (h i hi2).1, List.getElem_set_ne (Ne.symm e)]
theorem Bo.new (w : World) (n : Nat) (t : TypeId) : Bo (w.alloc (.cells (madeCells #[.bool false] n) t)) w.heap.size (List.replicate n false) := fun i hi => by
  have hn : i < n := by simpa using hi
  refine ⟨?_, World.frozen?_alloc_at _ _ _ _ rfl⟩
  rw [World.cell?_alloc_at (hn := rfl), ← Array.getElem?_toList, toList_madeCells_one]
  simp [hn, List.getElem?_replicate]
end
section
open Go.RowKit
theorem OwnK.at {w : World} {B : Nat} {v : Value} {L : List KY} (h : OwnK w B v L) (i : Nat) (hi : i < L.length) : ∃ g c u, v = .slice (some ⟨g, 0, none⟩) L.length c ∧ w.cell? ⟨g, i, none⟩ = some u ∧ OwnS w B u L[i] := by
  obtain ⟨cs, h, hC⟩ := h
  rcases h.2 with ⟨rfl, hn⟩ | ⟨g, cap, cur, rfl, hB, hg, hc, hm, hs, ht⟩
  · omega
  · obtain ⟨u, q1, q2⟩ := hC.2.2 i hi
    have hl := hC.1
    rw [← ht, List.getElem?_take, if_pos (by omega)] at q1
    refine ⟨g, cap, u, rfl, ?_, q2⟩
    simp only [World.cell?, hg]; simpa using q1
theorem OwnK.len {w : World} {B : Nat} {v : Value} {L : List KY} (h : OwnK w B v L) : L.length ≤ maxLen := by
  obtain ⟨cs, h, hC⟩ := h
  rcases h.2 with ⟨rfl, hn⟩ | ⟨g, cap, cur, rfl, hB, hg, hc, hm, hs, ht⟩
  · omega
  · omega
/-- an empty key is nil -/
def NilK (w : World) (v : Value) (L : List KY) : Prop := ∀ g n c i (h : i < L.length), v = .slice (some ⟨g, 0, none⟩) n c → L[i] = [] → w.cell? ⟨g, i, none⟩ = some (.slice none 0 0)
theorem NilK.below {w w' : World} {v : Value} {L : List KY} (h : NilK w v L) (hb : Below w.heap.size w w') : NilK w' v L := fun g n c i hi hv h0 => by
  have := h g n c i hi hv h0
  exact (hb.cell (cell_lt this)).trans this
section
variable {ops : Array Oper} {o : Oper} {a : Act} {K : Act → World → Prop} {Q : Exit → Act → World → Prop} {E : Prop}
end
def Io (w : World) (g : Nat) (D : List Nat) : Prop := ∀ i (h : i < D.length), w.cell? ⟨g, i, none⟩ = some (intV D[i]) ∧ w.frozen? ⟨g, i, none⟩ = false
theorem Io.below {w w' : World} {g B : Nat} {D : List Nat} (h : Io w g D) (hb : Below B w w') (hg : g < B) : Io w' g D := fun i hi =>
  ⟨(hb.cell hg).trans (h i hi).1, (hb.frozen hg).trans (h i hi).2⟩
theorem Io.set {w : World} {g k : Nat} {D : List Nat} (h : Io w g D) (hk : k < D.length) (d : Nat) : Io (w.setCell ⟨g, k, none⟩ (intV d)) g (D.set k d) := fun i hi => by
  have hi2 : i < D.length := by simpa using hi
  refine ⟨?_, by rw [World.frozen?_setCell]; exact (h i hi2).2⟩
  by_cases e : i = k
  · subst e
    rw [World.cell?_setCell_same (h := (h i hi2).1)]
    simp
  · rw [World.cell?_setCell_other _ _ _ _ (by intro q; cases q; exact e rfl), (h i hi2).1, List.getElem_set_ne (Ne.symm e)]
theorem Io.new (w : World) (n : Nat) (t : TypeId) : Io (w.alloc (.cells (madeCells #[.int .i64 0] n) t)) w.heap.size (List.replicate n 0) := fun i hi => by
  have hn : i < n := by simpa using hi
  refine ⟨?_, World.frozen?_alloc_at _ _ _ _ rfl⟩
  rw [World.cell?_alloc_at (hn := rfl), ← Array.getElem?_toList, toList_madeCells_one]
  simp [hn, List.getElem?_replicate, intV]
end
section
open Go.RowKit
/-- axes small enough -/
def FitX (X : List AX) : Prop := ∀ i (h : i < X.length), X[i].1.size ≤ 20000 ∧ X[i].2.length ≤ 65000 ∧ ∀ j (hj : j < X[i].2.length), X[i].2[j].size ≤ 20000
theorem FitX.small {X : List AX} (h : FitX X) : smallA X := fun i hi => by
  obtain ⟨h1, h2, h3⟩ := h i hi
  exact ⟨by omega, by omega, fun j hj => by have := h3 j hj; omega⟩
theorem rValid17_is {a : Option Addr} {cap n : Nat} {X : List AX} {q : Bool} {w : World} (hl : X.length ≤ 65536) (hz : Box (FitX X)) (hF : Axs w a X) (h : Box (validX X = q)) (hn : Box (X.length = n)) :
    Calls Tryz.prog 23 #[.slice a n cap] w fun e w' => e = .returned (.bool q) ∧ Below w.heap.size w w' := by
  have := rValid_any a cap X w hl (box hz.out.small) (box hF)
  rw [h.out, hn.out] at this; exact this
theorem rRanked17_is {n : ByteArray} {b : Option Addr} {c m : Nat} {V R : List ByteArray} {a : Option Addr} {cap nl : Nat} {L : List F} {st : Bool} {w : World} (hn : n.size ≤ 20000) (hl : V.length ≤ 65536) (hz : Box (∀ i (hi : i < V.length), V[i].size ≤ 20000)) (FL : Box (FitL L)) (hV : Ss w b V) (hF : Fs w a L) (h : Box (rankS (n, V) L st = R)) (hm : Box (V.length = m)) (hnl : Box (L.length = nl)) :
    Calls Tryz.prog 39 #[.agg #[.string n, .slice b m c], .slice a nl cap, .bool st] w fun e w' => OwnPost w R e w' := by
  have := rRanked_any n b c V a cap L st w hn hl hz FL (box hV) (box hF)
  rw [h.out, hm.out, hnl.out] at this; exact this
def OwnKPost (w : World) (K : List KY) (e : Ending) (w' : World) : Prop := ∃ v, e = .returned v ∧ OwnK w' w.heap.size v K ∧ Below w.heap.size w w'
end
end Go.Proofs.YtklfpkaemnhdhaaGreatDoor.Asc
