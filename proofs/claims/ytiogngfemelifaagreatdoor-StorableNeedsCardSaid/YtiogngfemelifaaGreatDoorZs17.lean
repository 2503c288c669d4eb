/- Merged texts: VryNam StoMine2 MsgTwo StoLaws StoLaws2 DatLaid StoLaws3. -/
import Derived.Test.YtiogngfemelifaaGreatDoorZs05
import Derived.Test.YtiogngfemelifaaGreatDoorZs07
import Derived.Test.YtiogngfemelifaaGreatDoorZs10
import Derived.Test.YtiogngfemelifaaGreatDoorZs11
import Derived.Test.YtiogngfemelifaaGreatDoorZs13
import Derived.Test.YtiogngfemelifaaGreatDoorZs14
import Derived.Test.YtiogngfemelifaaGreatDoorZs15
import Derived.Test.YtiogngfemelifaaGreatDoorZs16
import Derived.Deep.RegionHeld3
import Derived.LaidMore
import Derived.Lib.LaidTab
set_option linter.unusedVariables false
set_option linter.unusedSimpArgs false
set_option maxRecDepth 100000
namespace Go.Proofs.YtiogngfemelifaaGreatDoor.Asc
section
open Go.RowKit
theorem mTok19_is {s : ByteArray} {b : Bool} {w : World} (hs : s.size ≤ 65000) (h : Box (tokL s.data.toList = b)) :
    Calls Tryz.prog 36 #[.string s] w fun e w' => e = .returned (.bool b) ∧ w = w' :=
  (Token_any s w (by unfold maxLen; omega)).mono fun e w' ⟨h1, h2⟩ => ⟨by rw [h1, h.out], h2⟩
/-- the first k members in lower case -/
def LwRel (ms : List BL) (W : World) (v i : Value) (wr : World) : Prop :=
  ∃ k : Nat, i = .int .i64 k ∧ k ≤ ms.length ∧ (ms.take k).all okM = true ∧ OwnS wr W.heap.size v (lowY (ms.take k)) ∧ Box (Below W.heap.size W wr)
set_option maxHeartbeats 4000000 in
theorem mNames_any (a : Option Addr) (cap : Nat) (L : List F) (w : World) (S : Box (Sm L)) (hv : Box (∀ x ∈ getL nmVry L, x.size ≤ 65000)) (hF : Box (Fs w a L)) :
    Calls Tryz.prog 19 #[.slice a L.length cap] w fun e w' => NamesY w L e w' := by
  obtain ⟨ms, hms⟩ : ∃ ms, allL nmVry L = ms := ⟨_, rfl⟩
  have HMS := box hms
  obtain ⟨m, hm⟩ : ∃ m, ms.length = m := ⟨_, rfl⟩
  have HB : Box ((allB nmVry L).length = m) := box (by unfold allB; rw [List.length_map, hms, hm])
  have HZ := box (allB_mem19 hv.out)
  have hnv : nmVry.size ≤ 65536 := by decide
  by_cases hm0 : m < 64
  · have HM := box hm
    clear hms hm
    go_enter Tryz.func19, Tryz.ntmps19
    go_wp2_with fail
    refine (mAll19_is (nm := nmVry) S hv hnv hF.out HB).mono ?_; rintro e w0 ⟨p, c, rfl, hc, hS, hb⟩
    have B0 := box hb
    have S0 := box hS
    have hs00 := hb.size
    clear hb hS
    go_wp2_with fail
    refine (complete_yes hm0).mono ?_; rintro e w0 ⟨rfl, rfl⟩
    go_wp2
    go_loopw [5, 15] (fun v i wr => LwRel ms w0 v i wr) (fun _ i _ => m - (intOf i).toNat)
    case atStart => exact ⟨0, rfl, Nat.zero_le _, rfl, OwnS.nil _ _, box (Below.refl _ _)⟩
    case round =>
      obtain ⟨k, rfl, hk, hall, hO, B1⟩ := hrel
      obtain ⟨ws, rfl⟩ : ∃ ws, ws = wr := ⟨_, rfl⟩
      have HA := box hall
      have O := box hO
      have hs1 := B1.out.size
      rw [HM.out] at hk
      have HL6 : Box ((lowY (ms.take k)).length ≤ 65536) := box (by rw [lowY_len, List.length_take]; omega)
      by_cases hkm : k < m
      · have hki : (k : Int) < (m : Int) := by omega
        have hk0 : (0 : Int) ≤ (k : Int) := by omega
        have HKL := box (show k < ms.length by rw [HM.out]; exact hkm)
        obtain ⟨x, hx⟩ : ∃ x, bs (ms[k]'HKL.out) = x := ⟨_, rfl⟩
        have hkb : k < (allB nmVry L).length := by rw [HB.out]; exact hkm
        have hx2 : (allB nmVry L)[k] = x := by
          rw [← hx]
          simp only [allB, List.getElem_map]
          congr 1
          simp only [HMS.out]
        obtain ⟨g, off, rfl, c0⟩ := (S0.out.below B1.out) k hkb
        rw [hx2] at c0
        have hxz : x.size ≤ 65000 := by rw [← hx2]; exact HZ.out _ (List.getElem_mem hkb)
        obtain ⟨tb, htb⟩ : ∃ tb, tokL x.data.toList = tb := ⟨_, rfl⟩
        have HTB := box htb
        obtain ⟨sb, hsb⟩ : ∃ sb, decide (x.data.toList = [42]) = sb := ⟨_, rfl⟩
        have hst := star19_is x sb hsb
        have HOK : Box (okM (ms[k]'HKL.out) = (tb && !sb)) := box (by rw [← htb, ← hsb, ← hx]; unfold okM; rw [bs_toList, decide_not])
        clear hsb htb hall hO
        cases sb with
        | true =>
          have HNO : Box (okU (allL nmVry L) = false) := box (by rw [HMS.out]; exact okU_no HKL.out (by rw [HOK.out]; cases tb <;> rfl))
          clear hx hx2 hkb
          go_wp2
          go_ret2
          exact ⟨_, by unfold namesO; rw [HNO.out]; rfl, by rw [nmsB_no HNO.out]; exact OwnS.nil _ _, B0.out.trans (B1.out.mono hs00)⟩
        | false =>
          cases tb with
          | false =>
            have HNO : Box (okU (allL nmVry L) = false) := box (by rw [HMS.out]; exact okU_no HKL.out (by rw [HOK.out]; rfl))
            clear hx hx2 hkb
            go_wp2_with fail
            refine (mTok19_is hxz HTB).mono ?_; rintro e w2 ⟨rfl, rfl⟩
            go_wp2
            go_ret2
            exact ⟨_, by unfold namesO; rw [HNO.out]; rfl, by rw [nmsB_no HNO.out]; exact OwnS.nil _ _, B0.out.trans (B1.out.mono hs00)⟩
          | true =>
            have HOKK : Box ((ms.take (k + 1)).all okM = true) := box (okM_more HKL.out HA.out (by rw [HOK.out]; rfl))
            obtain ⟨y, hy⟩ : ∃ y, bs (lowL x.data.toList) = y := ⟨_, rfl⟩
            have HY := box hy
            have HMORE : Box (lowY (ms.take (k + 1)) = lowY (ms.take k) ++ [y]) := box (by rw [lowY_more HKL.out, ← hy, ← hx]; rfl)
            clear hx hx2 hkb hy
            go_wp2_with fail
            refine (mTok19_is hxz HTB).mono ?_; rintro e w2 ⟨rfl, rfl⟩
            go_wp2_with fail
            refine (mLow19_is (by omega) HY).mono ?_; rintro e w3 ⟨rfl, hb3⟩
            have B3 := box (B1.out.trans (hb3.mono hs1))
            have O3 := box (own_below O.out hb3)
            have hs3 := B3.out.size
            clear hb3 c0
            go_wp2_with (at_builtin; refine wpList_append_str _ rfl (.tmp 26) (.tmp 29) rfl w0.heap.size _ (lowY (ms.take k)) rfl ?a1 _ _ rfl y ?b1 ?c1 ?d1 ?_)
            case a1 => exact own_below O3.out (below_new _ _)
            case b1 => go_simp
            case c1 => exact HL6.out
            case d1 => simp; omega
            intro v2 w4 hO2 hb2
            have O4 := box hO2
            have B4 := box ((B3.out.alloc B3.out.size _).trans hb2)
            clear hO2 hb2
            go_wp2
            go_roundw
            case rel => exact ⟨k + 1, by go_num, by rw [HM.out]; omega, HOKK.out, by rw [HMORE.out]; exact O4.out, B4⟩
            case measure => simp [intOf]; omega
      · have hki : ¬ (k : Int) < (m : Int) := by omega
        have HE : Box (lowY (ms.take k) = lowY ms) := box (by rw [List.take_of_length_le (by rw [HM.out]; omega)])
        have HYES : Box (okU (allL nmVry L) = true) := box (by rw [HMS.out]; exact okU_yes (by rw [HM.out]; exact hm0) (by rw [HM.out]; omega) HA.out)
        have HNB : Box (nmsB L = namB ms) := box (by rw [nmsB_yes HYES.out, HMS.out])
        rw [HE.out] at hO
        have OE := box hO
        clear O hO HL6 hall
        have hlm : (lowY ms).length = m := by rw [lowY_len]; exact HM.out
        by_cases hmz : m = 0
        · subst hmz
          obtain ⟨oa, oc, rfl, _, _⟩ := OE.out.ss
          rw [hlm] at OE ⊢
          have HN0 : Box (nmsB L = []) := box (by
            rw [HNB.out]
            have := namB_len ms
            exact List.length_eq_zero_iff.1 (by rw [HM.out] at this; omega))
          have HL0 : Box (lowY ms = []) := box (List.length_eq_zero_iff.1 hlm)
          have ON := box (show OwnS ws w0.heap.size (.slice oa 0 oc) (nmsB L) from by rw [HN0.out, ← HL0.out]; exact OE.out)
          clear hlm
          go_wp2_with fail
          refine (sort19_none oa oc _).mono ?_; rintro e w2 ⟨rfl, rfl⟩
          go_wp2_with fail
          refine (compact19_none oa oc _).mono ?_; rintro e w3 ⟨rfl, rfl⟩
          go_wp2
          go_ret2
          exact ⟨_, by unfold namesO; rw [HYES.out]; rfl, Go.Joins.ownsRow_le ON.out hs00, B0.out.trans (B1.out.mono hs00)⟩
        · rcases OE.out.2 with ⟨hv0, h0⟩ | ⟨g, oc, cur, rfl, hbase, hgb, _⟩
          · exact absurd (hlm.symm.trans h0) hmz
          rw [hlm] at OE ⊢
          clear hgb hlm
          go_wp2_with fail
          refine (sort19_is OE.out HM (by omega)).mono ?_; rintro e w2 ⟨rfl, hS2⟩
          have S2 := box hS2
          clear hS2
          go_wp2_with fail
          refine (compact19_is S2.out HM (by omega)).mono ?_; rintro e w3 ⟨v3, rfl, hO3, hb3⟩
          have ON := box (show OwnS w3 w0.heap.size v3 (nmsB L) from by rw [HNB.out]; exact hO3)
          have B3 := box (B1.out.trans hb3)
          clear hO3 hb3
          go_wp2
          go_ret2
          exact ⟨_, by unfold namesO; rw [HYES.out]; rfl, Go.Joins.ownsRow_le ON.out hs00, B0.out.trans (B3.out.mono hs00)⟩
  · have HNO : Box (okU (allL nmVry L) = false) := box (okU_long (by rw [hms, hm]; exact hm0))
    clear hms hm
    go_enter Tryz.func19, Tryz.ntmps19
    go_wp2_with fail
    refine (mAll19_is (nm := nmVry) S hv hnv hF.out HB).mono ?_; rintro e w0 ⟨p, c, rfl, hc, hS, hb⟩
    have B0 := box hb
    clear hb hS
    go_wp2_with fail
    refine (complete_no hm0).mono ?_; rintro e w0 ⟨rfl, rfl⟩
    go_wp2
    go_ret2
    exact ⟨_, by unfold namesO; rw [HNO.out]; rfl, by rw [nmsB_no HNO.out]; exact OwnS.nil _ _, B0.out⟩
end
section
open Go.RowKit
theorem mReqC24_is {a : Option Addr} {cap n : Nat} {L : List F} {dns d1 d2 d3 d4 d5 d6 : Bool} {d7 d8 d9 d10 : Int} {w : World} (S : Box (Sm L)) (hv : Box (∀ nm, ∀ x ∈ getL nm L, x.size ≤ 65000)) (hF : Box (Fs w a L)) (HC : Box (ctQ L = ⟨dns, d1, d2, d3, d4, d5, d6, d7, d8, d9, d10⟩)) (hn : Box (L.length = n)) :
    Calls Tryz.prog 18 #[.slice a n cap] w fun e w' => e = .returned (.agg #[.bool dns, .bool d1, .bool d2, .bool d3, .bool d4, .bool d5, .bool d6, .int .i64 d7, .int .i64 d8, .int .i64 d9, .int .i64 d10]) ∧ Below w.heap.size w w' := by
  have h := mReqC_any a cap L w S hv hF _ HC
  rw [hn.out] at h; exact h
theorem mResp24_is {a : Option Addr} {cap n : Nat} {L : List F} {dns d1 d2 d3 d4 d5 d6 : Bool} {d7 d8 d9 d10 : Int} {w : World} (S : Box (Sm L)) (hv : Box (∀ nm, ∀ x ∈ getL nm L, x.size ≤ 65000)) (hF : Box (Fs w a L)) (HC : Box (respC (allL ccN L) = ⟨dns, d1, d2, d3, d4, d5, d6, d7, d8, d9, d10⟩)) (hn : Box (L.length = n)) :
    Calls Tryz.prog 17 #[.slice a n cap] w fun e w' => e = .returned (.agg #[.bool dns, .bool d1, .bool d2, .bool d3, .bool d4, .bool d5, .bool d6, .int .i64 d7, .int .i64 d8, .int .i64 d9, .int .i64 d10]) ∧ Below w.heap.size w w' := by
  have h := mResp_any a cap L w S (box (hv.out ccN)) hF _ HC
  rw [hn.out] at h; exact h
theorem mNames24_is {a : Option Addr} {cap n : Nat} {L : List F} {o : Bool} {w : World} (S : Box (Sm L)) (hv : Box (∀ nm, ∀ x ∈ getL nm L, x.size ≤ 65000)) (hF : Box (Fs w a L)) (HO : Box (namesO L = o)) (hn : Box (L.length = n)) :
    Calls Tryz.prog 19 #[.slice a n cap] w fun e w' => (∃ p k c, e = .returned (.tuple #[.slice p k c, .bool o])) ∧ Below w.heap.size w w' := by
  have h := mNames_any a cap L w S (box (hv.out nmVry)) hF
  rw [hn.out] at h
  refine h.mono fun e w' ⟨v, h1, h2, h3⟩ => ?_
  obtain ⟨p, c, rfl, _, _⟩ := h2.ss
  exact ⟨⟨p, _, c, by rw [h1, HO.out]⟩, h3⟩
theorem mHas24_is {a : Option Addr} {cap n : Nat} {L : List F} {nm : ByteArray} {q : Bool} {w : World} (S : Box (Sm L)) (M : nm.size ≤ 65536) (hF : Box (Fs w a L)) (h : Box (L.any (nmd nm) = q)) (hn : Box (L.length = n)) :
    Calls Tryz.prog 20 #[.slice a n cap, .string nm] w fun e w' => e = .returned (.bool q) ∧ Below w.heap.size w w' := by
  have h := has22_is (cap := cap) S M hF h
  rw [hn.out] at h; exact h
theorem mLater24_is {a : Option Addr} {cap n : Nat} {L : List F} {v : Bool} {w : World} (S : Box (Sm L)) (hv : Box (∀ nm, ∀ x ∈ getL nm L, x.size ≤ 65000)) (hF : Box (Fs w a L)) (hW : Box (Tabs w)) (HV : Box ((decide (0 < lifS L) || valT L) = v)) (hn : Box (L.length = n)) :
    Calls Tryz.prog 22 #[.slice a n cap] w fun e w' => e = .returned (.bool v) ∧ Below w.heap.size w w' := by
  have h := mLater_any a cap L v w S hv hF hW HV
  rw [hn.out] at h; exact h
/-- the method or the status forbids it -/
theorem mStor_no (m t : ByteArray) (n : Int) (a : Option Addr) (cap nq : Nat) (b : ByteArray) (k s : Int) (r : ByteArray) (a' : Option Addr) (cap' nl : Nat) (b' : ByteArray) (w : World)
    (g sv : Bool) (HG : (m.toList == [71, 69, 84]) = g) (HS : (s == 200) = sv) (h : (g && sv) = false) :
    Calls Tryz.prog 8 #[.agg #[.string m, .string t, .int .i64 n, .slice a nq cap, .string b], .agg #[.int .i64 k, .int .i64 s, .string r, .slice a' nl cap', .string b']] w fun e w' => e = .returned (.bool false) ∧ Below w.heap.size w w' := by
  have B0 : Box (Below w.heap.size w ((w.alloc (.cells #[.string m, .string t, .int .i64 n, .slice a nq cap, .string b] 24)).alloc (.cells #[.int .i64 k, .int .i64 s, .string r, .slice a' nl cap', .string b'] 26))) := box ((below_new w _).trans ((below_new _ _).mono (size_more _ _)))
  have hs2 : (s != 200) = !sv := by rw [← HS]; rfl
  cases g
  · clear h
    go_enter Tryz.func8, Tryz.ntmps8
    go_wp2
    go_ret
    exact ⟨rfl, B0.out⟩
  · rw [Bool.true_and] at h
    subst h
    go_enter Tryz.func8, Tryz.ntmps8
    go_wp2
    go_ret
    exact ⟨rfl, B0.out⟩
set_option maxHeartbeats 8000000 in
theorem mStor_yes (m t : ByteArray) (n : Int) (a : Option Addr) (cap nq : Nat) (Q : List F) (b : ByteArray) (k s : Int) (r : ByteArray) (a' : Option Addr) (cap' nl : Nat) (L : List F) (b' : ByteArray) (w : World)
    (SQ : Box (Sm Q)) (hvQ : Box (∀ nm, ∀ x ∈ getL nm Q, x.size ≤ 65000)) (hQ : Box (Fs w a Q)) (HNQ : Box (Q.length = nq)) (SL : Box (Sm L)) (hvL : Box (∀ nm, ∀ x ∈ getL nm L, x.size ≤ 65000)) (hL : Box (Fs w a' L)) (HNL : Box (L.length = nl)) (hT : Box (Tabs w))
    (d c : CT) (HD : Box (ctQ Q = d)) (HC : Box (respC (allL ccN L) = c)) (o rg au lt v : Bool) (HG : (m.toList == [71, 69, 84]) = true) (HS : (s == 200) = true) (HO : Box (namesO L = o)) (HR : Box (Q.any (nmd rgN) = rg)) (HA : Box (Q.any (nmd auN) = au)) (HL : Box ((decide (0 < lifS L) || valT L) = lt))
    (HV : Box (storB true true d.ns c o rg au lt false = v)) :
    Calls Tryz.prog 8 #[.agg #[.string m, .string t, .int .i64 n, .slice a nq cap, .string b], .agg #[.int .i64 k, .int .i64 s, .string r, .slice a' nl cap', .string b']] w fun e w' => e = .returned (.bool v) ∧ Below w.heap.size w w' := by
  obtain ⟨w0, hW0⟩ : ∃ w0, (w.alloc (.cells #[.string m, .string t, .int .i64 n, .slice a nq cap, .string b] 24)).alloc (.cells #[.int .i64 k, .int .i64 s, .string r, .slice a' nl cap', .string b'] 26) = w0 := ⟨_, rfl⟩
  have HW := box hW0
  have B0 : Box (Below w.heap.size w w0) := box (by rw [← hW0]; exact (below_new w _).trans ((below_new _ _).mono (size_more _ _)))
  have CQ : Box (C5 w.heap.size (.string m) (.string t) (.int .i64 n) (.slice a nq cap) (.string b) w0) := box (by rw [← hW0]; exact (C5.new _ _ _ _ _ w _).next (below_new _ _))
  have CR : Box (C5 (w.heap.size + 1) (.int .i64 k) (.int .i64 s) (.string r) (.slice a' nl cap') (.string b') w0) := box (by
    have h := C5.new (.int .i64 k) (.int .i64 s) (.string r) (.slice a' nl cap') (.string b') (w.alloc (.cells #[.string m, .string t, .int .i64 n, .slice a nq cap, .string b] 24)) 26
    rw [show (w.alloc (.cells #[.string m, .string t, .int .i64 n, .slice a nq cap, .string b] 24)).heap.size = w.heap.size + 1 from by simp] at h
    rw [← hW0]; exact h)
  have FQ0 := box (hQ.out.below B0.out)
  have FL0 := box (hL.out.below B0.out)
  have W0 := box (hT.out.below B0.out)
  obtain ⟨dns, d1, d2, d3, d4, d5, d6, d7, d8, d9, d10⟩ := d
  obtain ⟨cns, cnc, cmr, cpr, cpv, cpb, coc, cma, csm, cmf, cms⟩ := c
  obtain ⟨sb, hsm⟩ : ∃ sb, (csm == -1) = sb := ⟨_, rfl⟩
  obtain ⟨an, han⟩ : ∃ an, (cmr || cpb || (csm != -1)) = an := ⟨_, rfl⟩
  have HAN := box han
  have hs2 : (s != 200) = false := by rw [bne, HS]; rfl
  have q3 := CQ.out.1.2.2.2.1
  clear hW0 han
  · skip
    go_enter Tryz.func8, Tryz.ntmps8
    go_wp2_with fail
    rw [HW.out]
    refine (mResp24_is SL hvL FL0 HC HNL).mono ?_; rintro e w1 ⟨rfl, hb1⟩
    have N1 := box (hb1.alloc hb1.size (.cells #[.bool cns, .bool cnc, .bool cmr, .bool cpr, .bool cpv, .bool cpb, .bool coc, .int .i64 cma, .int .i64 csm, .int .i64 cmf, .int .i64 cms] 36))
    have B1 := box (B0.out.trans (N1.out.mono B0.out.size))
    have CQ1 := box (CQ.out.next N1.out)
    have CR1 := box (CR.out.next N1.out)
    have CC1 : Box (Ct w1.heap.size ⟨cns, cnc, cmr, cpr, cpv, cpb, coc, cma, csm, cmf, cms⟩ (w1.alloc (.cells #[.bool cns, .bool cnc, .bool cmr, .bool cpr, .bool cpv, .bool cpb, .bool coc, .int .i64 cma, .int .i64 csm, .int .i64 cmf, .int .i64 cms] 36))) := box (Ct.new ⟨cns, cnc, cmr, cpr, cpv, cpb, coc, cma, csm, cmf, cms⟩ w1 36)
    have q31 := (N1.out.cell (cell_lt q3)).trans q3
    clear hb1
    go_wp2_with fail
    refine (mReqC24_is SQ hvQ (box (FQ0.out.below N1.out)) HD HNQ).mono ?_; rintro e w3 ⟨rfl, hb3⟩
    have rf := run_field_ns dns d1 d2 d3 d4 d5 d6 d7 d8 d9 d10 w3
    have N3 := box (N1.out.trans (hb3.mono N1.out.size))
    have B3 := box (B0.out.trans (N3.out.mono B0.out.size))
    have CQ3 := box (CQ1.out.next hb3)
    have CR3 := box (CR1.out.next hb3)
    have CC3 := box (CC1.out.next hb3)
    clear hb3 q31
    obtain ⟨⟨m0, m1, m2, m3, m4⟩, _⟩ := CQ3.out
    obtain ⟨⟨n0, n1, n2, n3, n4⟩, _⟩ := CR3.out
    obtain ⟨⟨e0, e1, e2, e3, e4, e5, e6, e7, e8, e9, e10⟩, _⟩ := (show Ct w1.heap.size ⟨cns, cnc, cmr, cpr, cpv, cpb, coc, cma, csm, cmf, cms⟩ w3 from CC3.out)
    simp only at e0 e1 e2 e3 e4 e5 e6 e7 e8 e9 e10
    cases dns with
    | false =>
      cases cns with
      | false =>
        cases cpv with
        | false =>
          go_wp2_with fail
          refine (mNames24_is SL hvL (box (FL0.out.below N3.out)) HO HNL).mono ?_; rintro e w4 ⟨⟨p4, k4, c4, rfl⟩, hb4⟩
          have N4 := box (N3.out.trans (hb4.mono N3.out.size))
          have B4 := box (B0.out.trans (N4.out.mono B0.out.size))
          have CQ4 := box (CQ3.out.next hb4)
          have CR4 := box (CR3.out.next hb4)
          have CC4 := box (CC3.out.next hb4)
          clear hb4 m0 m1 m2 m3 m4 n0 n1 n2 n3 n4 e0 e1 e2 e3 e4 e5 e6 e7 e8 e9 e10
          obtain ⟨⟨m0, m1, m2, m3, m4⟩, _⟩ := CQ4.out
          obtain ⟨⟨n0, n1, n2, n3, n4⟩, _⟩ := CR4.out
          obtain ⟨⟨e0, e1, e2, e3, e4, e5, e6, e7, e8, e9, e10⟩, _⟩ := (show Ct w1.heap.size ⟨false, cnc, cmr, cpr, false, cpb, coc, cma, csm, cmf, cms⟩ w4 from CC4.out)
          simp only at e0 e1 e2 e3 e4 e5 e6 e7 e8 e9 e10
          cases o with
          | false =>
            go_wp2
            go_ret
            exact ⟨ret_bool (by rw [← HV.out]; simp [storB, anyC, bne, hsm]), B4.out⟩
          | true =>
            go_wp2_with fail
            refine (mHas24_is (nm := rgN) SQ (by decide) (box (FQ0.out.below N4.out)) HR HNQ).mono ?_; rintro e w5 ⟨rfl, hb5⟩
            have N5 := box (N4.out.trans (hb5.mono N4.out.size))
            have B5 := box (B0.out.trans (N5.out.mono B0.out.size))
            have CQ5 := box (CQ4.out.next hb5)
            have CR5 := box (CR4.out.next hb5)
            have CC5 := box (CC4.out.next hb5)
            clear hb5 m0 m1 m2 m3 m4 n0 n1 n2 n3 n4 e0 e1 e2 e3 e4 e5 e6 e7 e8 e9 e10
            obtain ⟨⟨m0, m1, m2, m3, m4⟩, _⟩ := CQ5.out
            obtain ⟨⟨n0, n1, n2, n3, n4⟩, _⟩ := CR5.out
            obtain ⟨⟨e0, e1, e2, e3, e4, e5, e6, e7, e8, e9, e10⟩, _⟩ := (show Ct w1.heap.size ⟨false, cnc, cmr, cpr, false, cpb, coc, cma, csm, cmf, cms⟩ w5 from CC5.out)
            simp only at e0 e1 e2 e3 e4 e5 e6 e7 e8 e9 e10
            cases rg with
            | false =>
              go_wp2_with fail
              refine (mHas24_is (nm := auN) SQ (by decide) (box (FQ0.out.below N5.out)) HA HNQ).mono ?_; rintro e w6 ⟨rfl, hb6⟩
              have N6 := box (N5.out.trans (hb6.mono N5.out.size))
              have B6 := box (B0.out.trans (N6.out.mono B0.out.size))
              have CQ6 := box (CQ5.out.next hb6)
              have CR6 := box (CR5.out.next hb6)
              have CC6 := box (CC5.out.next hb6)
              clear hb6 m0 m1 m2 m3 m4 n0 n1 n2 n3 n4 e0 e1 e2 e3 e4 e5 e6 e7 e8 e9 e10
              obtain ⟨⟨m0, m1, m2, m3, m4⟩, _⟩ := CQ6.out
              obtain ⟨⟨n0, n1, n2, n3, n4⟩, _⟩ := CR6.out
              obtain ⟨⟨e0, e1, e2, e3, e4, e5, e6, e7, e8, e9, e10⟩, _⟩ := (show Ct w1.heap.size ⟨false, cnc, cmr, cpr, false, cpb, coc, cma, csm, cmf, cms⟩ w6 from CC6.out)
              simp only at e0 e1 e2 e3 e4 e5 e6 e7 e8 e9 e10
              cases au with
              | false =>
                go_wp2_with fail
                refine (mLater24_is SL hvL (box (FL0.out.below N6.out)) (box (W0.out.below N6.out)) HL HNL).mono ?_; rintro e w9 ⟨rfl, hb9⟩
                have B9 := box (B6.out.trans (hb9.mono B6.out.size))
                clear hb9
                go_wp2
                go_ret
                exact ⟨ret_bool (by rw [← HV.out]; simp [storB, anyC, bne, hsm]), B9.out⟩
              | true =>
                go_wp2_with fail
                refine (mAny24_is HAN).mono ?_; rintro e w7 ⟨rfl, hb7⟩
                have N7 := box (N6.out.trans (hb7.mono N6.out.size))
                have B7 := box (B0.out.trans (N7.out.mono B0.out.size))
                have CQ7 := box (CQ6.out.next hb7)
                have CR7 := box (CR6.out.next hb7)
                have CC7 := box (CC6.out.next hb7)
                clear hb7 m0 m1 m2 m3 m4 n0 n1 n2 n3 n4 e0 e1 e2 e3 e4 e5 e6 e7 e8 e9 e10
                obtain ⟨⟨m0, m1, m2, m3, m4⟩, _⟩ := CQ7.out
                obtain ⟨⟨n0, n1, n2, n3, n4⟩, _⟩ := CR7.out
                obtain ⟨⟨e0, e1, e2, e3, e4, e5, e6, e7, e8, e9, e10⟩, _⟩ := (show Ct w1.heap.size ⟨false, cnc, cmr, cpr, false, cpb, coc, cma, csm, cmf, cms⟩ w7 from CC7.out)
                simp only at e0 e1 e2 e3 e4 e5 e6 e7 e8 e9 e10
                cases an with
                | false =>
                  go_wp2
                  go_ret
                  exact ⟨ret_bool (by rw [← HV.out]; simp only [storB, anyC, HAN.out]; simp), B7.out⟩
                | true =>
                  go_wp2_with fail
                  refine (mLater24_is SL hvL (box (FL0.out.below N7.out)) (box (W0.out.below N7.out)) HL HNL).mono ?_; rintro e w9 ⟨rfl, hb9⟩
                  have B9 := box (B7.out.trans (hb9.mono B7.out.size))
                  clear hb9
                  go_wp2
                  go_ret
                  exact ⟨ret_bool (by rw [← HV.out]; simp only [storB, anyC, HAN.out]; simp), B9.out⟩
            | true =>
              go_wp2
              go_ret
              exact ⟨ret_bool (by rw [← HV.out]; simp [storB, anyC, bne, hsm]), B5.out⟩
        | true =>
          go_wp2
          go_ret
          exact ⟨ret_bool (by rw [← HV.out]; simp [storB, anyC, bne, hsm]), B3.out⟩
      | true =>
        go_wp2
        go_ret
        exact ⟨ret_bool (by rw [← HV.out]; simp [storB, anyC, bne, hsm]), B3.out⟩
    | true =>
      go_wp2
      go_ret
      exact ⟨ret_bool (by rw [← HV.out]; simp [storB, anyC, bne, hsm]), B3.out⟩
end
section
open Go.RowKit
/-- two structs of five cells lie one behind the other, and two lists of fields -/
structure Two (w : World) (c0 c1 c2 c3 c4 d0 d1 d2 d3 d4 : Value) (a a' : Option Addr) (K L : List F) (w' : World) : Prop where
  c : C5 w.heap.size c0 c1 c2 c3 c4 w'
  d : C5 (w.heap.size + 1) d0 d1 d2 d3 d4 w'
  f : Fs w' a K
  g : Fs w' a' L
  b : Below w.heap.size w w'
section
variable {w w' w'' : World} {c0 c1 c2 c3 c4 d0 d1 d2 d3 d4 : Value} {a a' : Option Addr} {K L : List F}
theorem Two.next (h : Two w c0 c1 c2 c3 c4 d0 d1 d2 d3 d4 a a' K L w') (hb : Below w'.heap.size w' w'') : Two w c0 c1 c2 c3 c4 d0 d1 d2 d3 d4 a a' K L w'' :=
  ⟨h.c.next hb, h.d.next hb, h.f.below hb, h.g.below hb, h.b.trans (hb.mono h.b.size)⟩
theorem Two.drewN {n : Nat} (h : Two w c0 c1 c2 c3 c4 d0 d1 d2 d3 d4 a a' K L w') : Two w c0 c1 c2 c3 c4 d0 d1 d2 d3 d4 a a' K L (w'.drewN n) := h.next (below_drewN _ _)
theorem Two.new (t1 t2 : TypeId) (hF : Fs w a K) (hG : Fs w a' L) : Two w c0 c1 c2 c3 c4 d0 d1 d2 d3 d4 a a' K L ((w.alloc (.cells #[c0, c1, c2, c3, c4] t1)).alloc (.cells #[d0, d1, d2, d3, d4] t2)) := by
  have b1 := below_new w (.cells #[c0, c1, c2, c3, c4] t1)
  have b2 := below_new (w.alloc (.cells #[c0, c1, c2, c3, c4] t1)) (.cells #[d0, d1, d2, d3, d4] t2)
  have D := C5.new d0 d1 d2 d3 d4 (w.alloc (.cells #[c0, c1, c2, c3, c4] t1)) t2
  rw [show (w.alloc (.cells #[c0, c1, c2, c3, c4] t1)).heap.size = w.heap.size + 1 from by simp] at D
  exact ⟨(C5.new c0 c1 c2 c3 c4 w t1).next b2, D, (hF.below b1).below b2, (hG.below b1).below b2, b1.trans (b2.mono b1.size)⟩
theorem Two.cells (h : Two w c0 c1 c2 c3 c4 d0 d1 d2 d3 d4 a a' K L w') : w'.cell? ⟨w.heap.size, 0, none⟩ = some c0 ∧ w'.cell? ⟨w.heap.size, 1, none⟩ = some c1 ∧ w'.cell? ⟨w.heap.size, 2, none⟩ = some c2 ∧ w'.cell? ⟨w.heap.size, 3, none⟩ = some c3 ∧ w'.cell? ⟨w.heap.size, 4, none⟩ = some c4 ∧ w'.cell? ⟨w.heap.size + 1, 0, none⟩ = some d0 ∧ w'.cell? ⟨w.heap.size + 1, 1, none⟩ = some d1 ∧ w'.cell? ⟨w.heap.size + 1, 2, none⟩ = some d2 ∧ w'.cell? ⟨w.heap.size + 1, 3, none⟩ = some d3 ∧ w'.cell? ⟨w.heap.size + 1, 4, none⟩ = some d4 :=
  ⟨h.c.1.1, h.c.1.2.1, h.c.1.2.2.1, h.c.1.2.2.2.1, h.c.1.2.2.2.2, h.d.1.1, h.d.1.2.1, h.d.1.2.2.1, h.d.1.2.2.2.1, h.d.1.2.2.2.2⟩
end
end
section
open Go.RowKit
theorem mStor_is {m t : ByteArray} {n : Int} {a : Option Addr} {cap nq : Nat} {Q : List F} {b : ByteArray} {k s : Int} {r : ByteArray} {a' : Option Addr} {cap' nl : Nat} {L : List F} {b' : ByteArray} {w : World} {v : Bool}
    (SQ : Box (Sm Q)) (hvQ : Box (∀ nm, ∀ x ∈ getL nm Q, x.size ≤ 65000)) (hQ : Fs w a Q) (HNQ : Box (Q.length = nq)) (SL : Box (Sm L)) (hvL : Box (∀ nm, ∀ x ∈ getL nm L, x.size ≤ 65000)) (hL : Fs w a' L) (HNL : Box (L.length = nl)) (hT : Tabs w) (HV : Box (storV m.data.toList s Q L = v)) :
    Calls Tryz.prog 8 #[.agg #[.string m, .string t, .int .i64 n, .slice a nq cap, .string b], .agg #[.int .i64 k, .int .i64 s, .string r, .slice a' nl cap', .string b']] w fun e w' => e = .returned (.bool v) ∧ Below w.heap.size w w' := by
  have hv := HV.out
  unfold storV at hv
  rw [show m.data.toList = m.toList from (by rw [toList_data])] at hv
  rcases hg : (m.toList == [71, 69, 84]) with _ | _
  · refine (mStor_no m t n a cap nq b k s r a' cap' nl b' w _ _ hg rfl rfl).mono fun e w' ⟨h1, h2⟩ => ⟨?_, h2⟩
    rw [h1, ← hv, hg]; simp [storB]
  · rcases hs : (s == 200) with _ | _
    · refine (mStor_no m t n a cap nq b k s r a' cap' nl b' w _ _ hg hs rfl).mono fun e w' ⟨h1, h2⟩ => ⟨?_, h2⟩
      rw [h1, ← hv, hg, hs]; simp [storB]
    · refine mStor_yes m t n a cap nq Q b k s r a' cap' nl L b' w SQ hvQ (box hQ) HNQ SL hvL (box hL) HNL (box hT) _ _ (box rfl) (box rfl) _ _ _ _ v hg hs (box rfl) (box rfl) (box rfl) (box rfl) (box ?_)
      rw [← hv, hg, hs]; simp [storB]
theorem rStor_is {m t : ByteArray} {n : Int} {a : Option Addr} {cap nq : Nat} {Q : List F} {b : ByteArray} {k s : Int} {r : ByteArray} {a' : Option Addr} {cap' nl : Nat} {L : List F} {b' : ByteArray} {w : World} {v : Bool}
    (SQ : Box (Sm Q)) (hvQ : Box (∀ nm, ∀ x ∈ getL nm Q, x.size ≤ 65000)) (hQ : Fs w a Q) (HNQ : Box (Q.length = nq)) (SL : Box (Sm L)) (hvL : Box (∀ nm, ∀ x ∈ getL nm L, x.size ≤ 65000)) (hL : Fs w a' L) (HNL : Box (L.length = nl)) (HV : Box (storV m.data.toList s Q L = v)) :
    Calls Tryz.prog 9 #[.agg #[.string m, .string t, .int .i64 n, .slice a nq cap, .string b], .agg #[.int .i64 k, .int .i64 s, .string r, .slice a' nl cap', .string b']] w fun e w' => e = .returned (.bool v) ∧ Below w.heap.size w w' := by
  have hv := HV.out
  unfold storV at hv
  rw [show m.data.toList = m.toList from (by rw [toList_data])] at hv
  exact rStor_in m t n a cap nq Q b k s r a' cap' nl L b' w SQ hvQ (box hQ) HNQ SL hvL (box hL) HNL _ _ (box rfl) (box rfl) _ _ _ _ _ v _ rfl (box rfl) (box rfl) (box rfl) (box rfl) (box rfl) _ rfl (box hv)
def ma24 : ByteArray := ⟨#[109, 97, 120, 45, 97, 103, 101, 61, 49]⟩
def ge24 : ByteArray := ⟨#[71, 69, 84]⟩
def aw24L : List F := [(ccN, ma24)]
theorem aw24_yes : storV ge24.data.toList 200 [] aw24L = true := by
  have h1 : respC (allL ccN aw24L) = ⟨false, false, false, false, false, false, false, 1, -1, -1, -1⟩ := by
    rw [show allL ccN aw24L = [[109, 97, 120, 45, 97, 103, 101, 61, 49]] from by decide +kernel]
    decide +kernel
  have h2 : lifS aw24L = 1 := by
    unfold lifS lifeV
    rw [h1, if_neg (by decide), if_pos (by decide)]
  unfold storV
  rw [h1, h2, show namesO aw24L = true from by decide +kernel, show (ctQ []).ns = false from by decide +kernel]
  simp [storB, ge24]
theorem aw24_no : storV ge24.data.toList 200 [] [] = false := by
  have h1 : lifS [] = 0 := by
    unfold lifS lifeV
    rw [if_neg (by decide +kernel), if_neg (by decide +kernel), fdt_none (show firQ exN [] = false from rfl)]
    rfl
  have h2 : valT [] = false := by
    unfold valT
    rw [fdt_none (show firQ lmN [] = false from rfl)]
    rfl
  unfold storV
  rw [h1, h2]
  simp [storB]
theorem sm_nil24 : Sm [] := ⟨Nat.zero_le _, fun i hi => absurd hi (Nat.not_lt_zero _)⟩
theorem fs_nil24 (w : World) (a : Option Addr) : Fs w a [] := fun i hi => absurd hi (Nat.not_lt_zero _)
theorem get_nil24 (nm : ByteArray) : ∀ x ∈ getL nm [], x.size ≤ 65000 := fun x hx => by cases hx
theorem aw24_sm : Sm aw24L := ⟨by decide, fun i hi => by
  match i, hi with
  | 0, _ => exact (show ccN.size ≤ 65536 ∧ ma24.size ≤ 65536 by decide)⟩
theorem aw24_get (nm : ByteArray) : ∀ x ∈ getL nm aw24L, x.size ≤ 65000 := by
  intro x hx
  unfold getL at hx
  obtain ⟨p, hp, rfl⟩ := List.mem_map.1 hx
  have h2 := (List.mem_filter.1 hp).1
  unfold aw24L at h2
  simp only [List.mem_cons, List.not_mem_nil, or_false] at h2
  subst h2; decide
theorem fs_one24 (a b : ByteArray) (w : World) (t : TypeId) : Fs (w.alloc (.cells #[.string a, .string b] t)) (some ⟨w.heap.size, 0, none⟩) [(a, b)] := by
  intro i hi
  match i, hi with
  | 0, _ => exact ⟨_, _, rfl, by rw [World.cell?_alloc_mark]; rfl, by rw [World.cell?_alloc_mark]; rfl⟩
theorem mUns24_is {m : ByteArray} {v : Bool} {w : World} (h : Box (unsB m.data.toList = v)) :
    Calls Tryz.prog 14 #[.string m] w fun e w' => e = .returned (.bool v) ∧ w = w' :=
  (mUns_any m w).mono fun e w' ⟨h1, h2⟩ => ⟨by rw [h1, h.out], h2⟩
theorem awake24_any (w : World) (hW : Tabs w) : Calls Tryz.prog 10 #[] w fun e w' => e = .returned (.bool true) ∧ Below w.heap.size w w' := by
  have HY := box aw24_yes
  have HN := box aw24_no
  have S0 := box sm_nil24
  have G0 := box get_nil24
  have S1 := box aw24_sm
  have G1 := box aw24_get
  have HU : Box (unsB (⟨#[80, 79, 83, 84]⟩ : ByteArray).data.toList = true) := box (by decide)
  obtain ⟨w3, hw3⟩ : ∃ w3, ((w.alloc (.cells #[.string ge24, .string ⟨#[]⟩, .int .i64 0, .slice none 0 0, .string ⟨#[]⟩] 24)).alloc (.cells #[.string ccN, .string ma24] 43)).alloc (.cells #[.int .i64 0, .int .i64 200, .string ⟨#[]⟩, .slice (some ⟨w.heap.size + 1, 0, none⟩) 1 1, .string ⟨#[]⟩] 26) = w3 := ⟨_, rfl⟩
  have HW3 := box hw3
  unfold ge24 ccN ma24 at HW3
  have b1 := below_new w (.cells #[.string ge24, .string ⟨#[]⟩, .int .i64 0, .slice none 0 0, .string ⟨#[]⟩] 24)
  have b2 := below_new (w.alloc (.cells #[.string ge24, .string ⟨#[]⟩, .int .i64 0, .slice none 0 0, .string ⟨#[]⟩] 24)) (.cells #[.string ccN, .string ma24] 43)
  have b3 := below_new ((w.alloc (.cells #[.string ge24, .string ⟨#[]⟩, .int .i64 0, .slice none 0 0, .string ⟨#[]⟩] 24)).alloc (.cells #[.string ccN, .string ma24] 43)) (.cells #[.int .i64 0, .int .i64 200, .string ⟨#[]⟩, .slice (some ⟨w.heap.size + 1, 0, none⟩) 1 1, .string ⟨#[]⟩] 26)
  have B3 : Box (Below w.heap.size w w3) := box (by rw [← hw3]; exact b1.trans ((b2.mono b1.size).trans (b3.mono (Nat.le_trans b1.size b2.size))))
  have C3 : Box (C5 w.heap.size (.string ge24) (.string ⟨#[]⟩) (.int .i64 0) (.slice none 0 0) (.string ⟨#[]⟩) w3) := box (by rw [← hw3]; exact ((C5.new _ _ _ _ _ w _).next b2).next b3)
  have F3 : Box (Fs w3 (some ⟨w.heap.size + 1, 0, none⟩) aw24L) := box (by
    have h := fs_one24 ccN ma24 (w.alloc (.cells #[.string ge24, .string ⟨#[]⟩, .int .i64 0, .slice none 0 0, .string ⟨#[]⟩] 24)) 43
    rw [show (w.alloc (.cells #[.string ge24, .string ⟨#[]⟩, .int .i64 0, .slice none 0 0, .string ⟨#[]⟩] 24)).heap.size = w.heap.size + 1 from by simp] at h
    rw [← hw3]; exact h.below b3)
  have T0 := box hW
  clear hw3 b1 b2 b3 hW
  go_enter Tryz.func10, Tryz.ntmps10
  go_wp2_with fail
  rw [HW3.out]
  refine (mStor_is (m := ge24) (Q := []) (L := aw24L) S0 G0 (fs_nil24 _ _) (box rfl) S1 G1 F3.out (box rfl) (T0.out.below B3.out) HY).mono ?_; rintro e w4 ⟨rfl, hb4⟩
  have B4 := box (B3.out.trans (hb4.mono B3.out.size))
  obtain ⟨⟨m0, m1, m2, m3, m4⟩, _⟩ := C3.out.next hb4
  clear hb4
  go_wp2_with fail
  refine (mStor_is (m := ge24) (Q := []) (L := []) S0 G0 (fs_nil24 _ _) (box rfl) S0 G0 (fs_nil24 _ _) (box rfl) (T0.out.below B4.out) HN).mono ?_; rintro e w5 ⟨rfl, hb5⟩
  have B5 := box (B4.out.trans (hb5.mono B4.out.size))
  clear hb5 m0 m1 m2 m3 m4
  go_wp2_with fail
  refine (mUns24_is HU).mono ?_; rintro e w6 ⟨rfl, rfl⟩
  go_wp2
  go_ret
  exact ⟨rfl, B5.out⟩
end
section
open Go.RowKit
theorem rUns24_is {m : ByteArray} {v : Bool} {w : World} (h : Box (unsB m.data.toList = v)) :
    Calls Tryz.prog 15 #[.string m] w fun e w' => e = .returned (.bool v) ∧ w = w' :=
  (rUns_any m w).mono fun e w' ⟨h1, h2⟩ => ⟨by rw [h1, h.out], h2⟩
theorem eq_bool24 (v : Bool) : (v == v) = true := by cases v <;> rfl
theorem parts24_walk (a : Option Addr) (cap : Nat) (L : List F) (m : ByteArray) (w : World) (hl : L.length ≤ maxLen) (hF : Fs w a L) (hc : L.length ≤ cap) (hm : m.size ≤ maxLen) (hW : Tabs w) :
    Calls Tryz.prog 4 #[.slice a L.length cap, .string m] w fun e w' => e = .returned (.bool true) ∧ Below w.heap.size w w' := by
  have F0 := box hF
  have W0 := box hW
  have HL := hl
  unfold maxLen at hm
  clear hF hl hW hc
  rcases hk : keepF L with _ | _
  · have HK := box hk
    clear hk
    go_enter Tryz.func4, Tryz.ntmps4
    go_wp2_with fail
    refine (keepFields_any a cap L _ HL F0).mono ?_; rintro e w1 ⟨rfl, rfl⟩; rw [HK.out]
    go_wp2
    go_ret
    exact ⟨rfl, Below.refl _ _⟩
  · have HK := box hk
    have SM := box (keep_sm7 hk)
    have HV := box (keep_get hk)
    clear hk
    by_cases h1 : 100 < m.size
    · have h1i : (100 : Int) < (m.size : Int) := by omega
      go_enter Tryz.func4, Tryz.ntmps4
      go_wp2_with fail
      refine (keepFields_any a cap L _ HL F0).mono ?_; rintro e w1 ⟨rfl, rfl⟩; rw [HK.out]
      go_wp2
      go_ret
      exact ⟨rfl, Below.refl _ _⟩
    · have h1i : ¬ (100 : Int) < (m.size : Int) := by omega
      obtain ⟨x, hx⟩ : ∃ x, valT L = x := ⟨_, rfl⟩
      obtain ⟨y, hy⟩ : ∃ y, unsB m.data.toList = y := ⟨_, rfl⟩
      have HX := box hx
      have HY := box hy
      have ex := eq_bool24 x
      have ey := eq_bool24 y
      clear hx hy
      go_enter Tryz.func4, Tryz.ntmps4
      go_wp2_with fail
      refine (keepFields_any a cap L _ HL F0).mono ?_; rintro e w1 ⟨rfl, rfl⟩; rw [HK.out]
      go_wp2_with fail
      refine (mVal_any a cap L x _ SM HV F0 W0 HX).mono ?_; rintro e w2 ⟨rfl, hb2⟩
      have B2 := box hb2
      have F2 := box (F0.out.below hb2)
      have W2 := box (W0.out.below hb2)
      clear hb2
      go_wp2_with fail
      refine (rVal_any a cap L x _ SM HV F2 HX).mono ?_; rintro e w3 ⟨rfl, hb3⟩
      have B3 := box (B2.out.trans (hb3.mono B2.out.size))
      have W3 := box (W2.out.below hb3)
      clear hb3
      go_wp2_with fail
      refine (mUns24_is HY).mono ?_; rintro e w4 ⟨rfl, rfl⟩
      go_wp2_with fail
      refine (rUns24_is HY).mono ?_; rintro e w5 ⟨rfl, rfl⟩
      go_wp2_with fail
      refine (awake24_any _ W3.out).mono ?_; rintro e w6 ⟨rfl, hb6⟩
      have B6 := box (B3.out.trans (hb6.mono B3.out.size))
      clear hb6
      go_wp2
      go_ret
      exact ⟨rfl, B6.out⟩
theorem kReq24_is {m t : ByteArray} {n : Int} {a : Option Addr} {cap nq : Nat} {Q : List F} {b : ByteArray} {w : World} (hm : m.size ≤ maxLen) (ht : t.size ≤ maxLen) (hb : b.size ≤ maxLen) (hl : Box (Q.length ≤ maxLen)) (hF : Fs w a Q) (hn : Box (Q.length = nq)) :
    Calls Tryz.prog 6 #[.agg #[.string m, .string t, .int .i64 n, .slice a nq cap, .string b]] w fun e w' => KeepPost (okRq m t Q b) e ∧ Below w.heap.size w w' := by
  have h := kReq_any m t n a cap Q b w hm ht hb hl (box hF)
  unfold rqV at h
  rw [hn.out] at h; exact h
theorem kRes24_is {n s : Int} {r : ByteArray} {a : Option Addr} {cap nl : Nat} {L : List F} {b : ByteArray} {w : World} (hr : r.size ≤ maxLen) (hb : b.size ≤ maxLen) (hl : Box (L.length ≤ maxLen)) (hF : Fs w a L) (hn : Box (L.length = nl)) :
    Calls Tryz.prog 7 #[.agg #[.int .i64 n, .int .i64 s, .string r, .slice a nl cap, .string b]] w fun e w' => KeepPost (okRs r L b) e ∧ Below w.heap.size w w' := by
  have h := kRes_any n s r a cap L b w hr hb hl (box hF)
  unfold rsV at h
  rw [hn.out] at h; exact h
set_option maxHeartbeats 4000000 in
theorem decides24_in (m t : ByteArray) (n : Int) (a : Option Addr) (cap nq : Nat) (Q : List F) (b : ByteArray) (k s : Int) (r : ByteArray) (a' : Option Addr) (cap' nl : Nat) (L : List F) (c : ByteArray) (w : World)
    (hm : Box (m.size ≤ maxLen)) (ht : Box (t.size ≤ maxLen)) (hQl : Box (Q.length ≤ maxLen)) (hQ : Fs w a Q) (hb : Box (b.size ≤ maxLen)) (hr : Box (r.size ≤ maxLen)) (hLl : Box (L.length ≤ maxLen)) (hL : Fs w a' L) (hc : Box (c.size ≤ maxLen)) (HNQ : Box (Q.length = nq)) (HNL : Box (L.length = nl)) (hW : Tabs w) :
    Calls Tryz.prog 3 #[.agg #[.string m, .string t, .int .i64 n, .slice a nq cap, .string b], .agg #[.int .i64 k, .int .i64 s, .string r, .slice a' nl cap', .string c]] w fun e w' => e = .returned (.bool true) ∧ Below w.heap.size w w' := by
  have T0 := box (Two.new (w := w) (c0 := .string m) (c1 := .string t) (c2 := .int .i64 n) (c3 := .slice a nq cap) (c4 := .string b) (d0 := .int .i64 k) (d1 := .int .i64 s) (d2 := .string r) (d3 := .slice a' nl cap') (d4 := .string c) 24 26 hQ hL)
  have W0 := box hW
  clear hQ hL hW
  obtain ⟨v, hv⟩ : ∃ v, storV m.data.toList s Q L = v := ⟨_, rfl⟩
  have HV := box hv
  have ev := eq_bool24 v
  clear hv
  go_enter Tryz.func3, Tryz.ntmps3
  go_wp2_with fail
  refine (kReq24_is hm.out ht.out hb.out hQl T0.out.f HNQ).mono ?_; rintro e w1 ⟨⟨q1, rfl, hq1⟩, hb1⟩
  have T1 := box (T0.out.next hb1)
  clear hb1
  cases q1 with
  | false =>
    go_wp2
    go_ret
    exact ⟨rfl, T1.out.b⟩
  | true =>
    obtain ⟨e0, e1, e2, e3, e4, f0, f1, f2, f3, f4⟩ := T1.out.cells
    go_wp2_with fail
    refine (kRes24_is hr.out hc.out hLl T1.out.g HNL).mono ?_; rintro e w2 ⟨⟨q2, rfl, hq2⟩, hb2⟩
    have T2 := box (T1.out.next hb2)
    clear hb2 e0 e1 e2 e3 e4 f0 f1 f2 f3 f4
    cases q2 with
    | false =>
      go_wp2
      go_ret
      exact ⟨rfl, T2.out.b⟩
    | true =>
      have kQ := (hq1 (by simp)).2.2.1
      have kL := (hq2 (by simp)).2.1
      have SQ := box (keep_sm7 kQ)
      have VQ := box (keep_get kQ)
      have SL := box (keep_sm7 kL)
      have VL := box (keep_get kL)
      have BW := box (W0.out.below T2.out.b)
      clear hq1 hq2 kQ kL
      go_wp2
      go_region_held3 (fun w' => w'.cell? ⟨w.heap.size, 0, none⟩ = some (.string m) ∧ w'.cell? ⟨w.heap.size, 1, none⟩ = some (.string t) ∧ w'.cell? ⟨w.heap.size, 2, none⟩ = some (.int .i64 n) ∧ w'.cell? ⟨w.heap.size, 3, none⟩ = some (.slice a nq cap) ∧ w'.cell? ⟨w.heap.size, 4, none⟩ = some (.string b) ∧ w'.cell? ⟨w.heap.size + 1, 0, none⟩ = some (.int .i64 k) ∧ w'.cell? ⟨w.heap.size + 1, 1, none⟩ = some (.int .i64 s) ∧ w'.cell? ⟨w.heap.size + 1, 2, none⟩ = some (.string r) ∧ w'.cell? ⟨w.heap.size + 1, 3, none⟩ = some (.slice a' nl cap') ∧ w'.cell? ⟨w.heap.size + 1, 4, none⟩ = some (.string c)) (first | exact K5.out.cells | exact K4.out.cells | exact K3.out.cells | exact T2.out.cells | exact (T2.out.drewN).cells) (first | (go_at_call 10; have kk := K4.out; clear kk; refine (awake24_any _ (W0.out.below K4.out.b)).mono ?_; rintro e w5 ⟨rfl, hu⟩; have K5 := box ((K4.out).next hu); clear hu) | (go_at_call 9; have kk := K3.out; clear kk; refine (rStor_is SQ VQ K3.out.f HNQ SL VL K3.out.g HNL HV).mono ?_; rintro e w4 ⟨rfl, hu⟩; have K4 := box ((K3.out).next hu); clear hu) | (go_at_call 8; refine (mStor_is SQ VQ (T2.out.drewN).f HNQ SL VL (T2.out.drewN).g HNL (W0.out.below (T2.out.drewN).b) HV).mono ?_; rintro e w3 ⟨rfl, hu⟩; have K3 := box ((T2.out.drewN).next hu); clear hu))
      all_goals
        go_wp2
        go_ret
        exact ⟨rfl, K5.out.b⟩
theorem decides24_walk (m t : ByteArray) (n : Int) (a : Option Addr) (cap : Nat) (Q : List F) (b : ByteArray) (k s : Int) (r : ByteArray) (a' : Option Addr) (cap' : Nat) (L : List F) (c : ByteArray) (w : World)
    (hm : m.size ≤ maxLen) (ht : t.size ≤ maxLen) (hn : (Lit.int .i64 n).wf = true) (hQl : Q.length ≤ maxLen) (hQ : Fs w a Q) (hb : b.size ≤ maxLen) (hk : (Lit.int .i64 k).wf = true) (hs : (Lit.int .i64 s).wf = true) (hr : r.size ≤ maxLen) (hLl : L.length ≤ maxLen) (hL : Fs w a' L) (hc : c.size ≤ maxLen) (hW : Tabs w) :
    Calls Tryz.prog 3 #[rqV m t n a cap Q b, rsV k s r a' cap' L c] w fun e w' => e = .returned (.bool true) ∧ Below w.heap.size w w' :=
  decides24_in m t n a cap _ Q b k s r a' cap' _ L c w (box hm) (box ht) (box hQl) hQ (box hb) (box hr) (box hLl) hL (box hc) (box rfl) (box rfl) hW
end
section
open Go.RowKit
theorem cell_size20 {w : World} {a : Addr} {v : Value} (h : w.cell? a = some v) : a.block < w.heap.size := by
  refine Nat.lt_of_not_le fun hle => ?_
  unfold World.cell? at h
  rw [Array.getElem?_eq_none hle] at h
  cases h
/-- an array of strings that reads as the table holds these strings, cell for cell -/
theorem cells_of_strs {H : Type} {enc : TypeId × Value → H} {w : World} {base : Nat} {sp : Nat → Bool} {held : Bool} {fuel : Nat} {t e : TypeId} {n : Nat} {cs : List Value} {zs : List (List UInt8)} {p : List MemPlace}
    (ht : Tryz.prog.underlying t = some (.array n e)) (he : Tryz.prog.underlying e = some .string) (hce : Tryz.prog.cellsOf e = 1) (hct : Tryz.prog.cellsOf t = n)
    (h : DataW.trod enc Tryz.prog w base sp held fuel t cs = some (.agg (zs.map fun z => .lit (.string z)), p)) : cs = zs.map fun z => Value.string (bs z) := by
  cases fuel with
  | zero => simp [DataW.trod] at h
  | succ fuel =>
    simp only [DataW.trod, ht, hce, hct, Nat.mul_one] at h
    split at h
    · rename_i hl
      obtain ⟨xs, hm, hx⟩ := Option.map_eq_some_iff.1 h
      have hxs : xs.map (·.1) = zs.map fun z => (DataW.lit (.string z) : DataW H) := by
        have := congrArg Prod.fst hx
        simpa using this
      have hxl : xs.length = n := by simpa using Lib.mapM_length hm
      have hzl : zs.length = n := by
        have := congrArg List.length hxs
        simp at this
        omega
      apply List.ext_getElem?
      intro i
      by_cases hi : i < n
      · obtain ⟨b, hb, hf⟩ := Lib.mapM_at hm i i (by simp [hi])
        obtain ⟨z, hc, rfl, _⟩ := DataW.trod_string he hf
        have h1 : cs[i]? = some (.string z) := by
          have := congrArg (·[0]?) hc
          simpa [List.getElem?_take, List.getElem?_drop] using this
        have h2 : (xs.map (·.1))[i]? = some (DataW.lit (.string z.data.toList) : DataW H) := by simp [hb]
        rw [hxs] at h2
        simp only [List.getElem?_map, Option.map_eq_some_iff, DataW.lit.injEq, Lit.string.injEq] at h2
        obtain ⟨z', hz', hzz⟩ := h2
        rw [h1, List.getElem?_map, hz', Option.map_some, hzz]; rfl
      · rw [List.getElem?_eq_none (by omega), List.getElem?_eq_none (by simp; omega)]
    · cases h
theorem gWk : Tryz.prog.globalNamed "variantproxy/date.weekdays" = some 1 := by kernel_rfl
theorem gMo : Tryz.prog.globalNamed "variantproxy/date.months" = some 0 := by kernel_rfl
theorem gLn : Tryz.prog.globalNamed "variantproxy/date.monthLengths" = some 2 := by kernel_rfl
theorem tWk : (Tryz.prog.globals[1]?).map (·.type) = some 95 := by kernel_rfl
theorem tMo : (Tryz.prog.globals[0]?).map (·.type) = some 92 := by kernel_rfl
theorem tLn : (Tryz.prog.globals[2]?).map (·.type) = some 114 := by kernel_rfl
def wkT : List (List UInt8) := [[84, 104, 117], [70, 114, 105], [83, 97, 116], [83, 117, 110], [77, 111, 110], [84, 117, 101], [87, 101, 100]]
def moT : List (List UInt8) := [[74, 97, 110], [70, 101, 98], [77, 97, 114], [65, 112, 114], [77, 97, 121], [74, 117, 110], [74, 117, 108], [65, 117, 103], [83, 101, 112], [79, 99, 116], [78, 111, 118], [68, 101, 99]]
def lnT : List Int := [31, 28, 31, 30, 31, 30, 31, 31, 30, 31, 30, 31]
theorem tabs_of_laid {W : World} (h : laidMet Tryz.prog [("variantproxy/date.weekdays", .agg (wkT.map fun z => .lit (.string z))), ("variantproxy/date.months", .agg (moT.map fun z => .lit (.string z))), ("variantproxy/date.monthLengths", Lib.tabData .i64 lnT)] W) : Tabs W := by
  obtain ⟨ps, ⟨g1, t1, c1, f1, p1, q1, hg1, ht1, hv1, hd1, ⟨g2, t2, c2, f2, p2, q2, hg2, ht2, hv2, hd2, ⟨g3, t3, c3, f3, p3, q3, hg3, ht3, hv3, hd3, _, _⟩, _⟩, _⟩, _⟩ := h
  obtain rfl := Option.some.inj (gWk.symm.trans hg1)
  obtain rfl := Option.some.inj (tWk.symm.trans ht1)
  obtain rfl := Option.some.inj (gMo.symm.trans hg2)
  obtain rfl := Option.some.inj (tMo.symm.trans ht2)
  obtain rfl := Option.some.inj (gLn.symm.trans hg3)
  obtain rfl := Option.some.inj (tLn.symm.trans ht3)
  have e1 := cells_of_strs Tryz.underlying95 Tryz.underlying9 (by kernel_rfl) (by kernel_rfl) hd1
  have e2 := cells_of_strs Tryz.underlying92 Tryz.underlying9 (by kernel_rfl) (by kernel_rfl) hd2
  have e3 := Lib.cells_of_tab Tryz.underlying114 Tryz.underlying3 (by kernel_rfl) (by kernel_rfl) hd3
  have a1 : ∀ k, k < 7 → W.cell? ⟨1, k, none⟩ = some (.string (bs (wkL k))) := fun k hk => by
    have h1 := World.var?_cell gWk hv1 k
    have h2 : c1[k]? = some (.string (bs (wkL k))) := by
      rw [← Array.getElem?_toList, e1]
      have key : ∀ k : Fin 7, wkT[k.1]? = some (wkL k.1) := by decide
      rw [List.getElem?_map, key ⟨k, hk⟩]; rfl
    rw [h1, h2]
  have a2 : ∀ k, k < 12 → W.cell? ⟨0, k, none⟩ = some (.string (bs (monL (k + 1)))) := fun k hk => by
    have h1 := World.var?_cell gMo hv2 k
    have h2 : c2[k]? = some (.string (bs (monL (k + 1)))) := by
      rw [← Array.getElem?_toList, e2]
      have key : ∀ k : Fin 12, moT[k.1]? = some (monL (k.1 + 1)) := by decide
      rw [List.getElem?_map, key ⟨k, hk⟩]; rfl
    rw [h1, h2]
  have a3 : ∀ k, k < 12 → W.cell? ⟨2, k, none⟩ = some (.int .i64 (lenM false (k + 1) : Nat)) := fun k hk => by
    have h1 := World.var?_cell gLn hv3 k
    have h2 : c3[k]? = some (.int .i64 (lenM false (k + 1) : Nat)) := by
      rw [← Array.getElem?_toList, e3]
      have key : ∀ k : Fin 12, lnT[k.1]? = some ((lenM false (k.1 + 1) : Nat) : Int) := by decide
      rw [List.getElem?_map, key ⟨k, hk⟩]; rfl
    rw [h1, h2]
  exact ⟨a1, a2, a3, cell_size20 (a1 0 (by omega)), cell_size20 (a2 0 (by omega)), cell_size20 (a3 0 (by omega))⟩
end
section
open Go.RowKit
theorem mVal24_is {a : Option Addr} {cap n : Nat} {L : List F} {v : Bool} {w : World} (S : Box (Sm L)) (hv : Box (∀ nm, ∀ x ∈ getL nm L, x.size ≤ 65000)) (hF : Fs w a L) (hW : Tabs w) (h : Box (valT L = v)) (hn : Box (L.length = n)) :
    Calls Tryz.prog 12 #[.slice a n cap] w fun e w' => e = .returned (.bool v) ∧ Below w.heap.size w w' := by
  have h := mVal_any a cap L v w S hv (box hF) (box hW) h
  rw [hn.out] at h; exact h
theorem uns_get {m : List UInt8} (h : (m == [71, 69, 84]) = true) : unsB m = false := by
  unfold unsB; rw [h]; rfl
set_option maxHeartbeats 4000000 in
theorem needs24_in (m t : ByteArray) (n : Int) (a : Option Addr) (cap nq : Nat) (Q : List F) (b : ByteArray) (k s : Int) (r : ByteArray) (a' : Option Addr) (cap' nl : Nat) (L : List F) (c : ByteArray) (w : World)
    (hm : Box (m.size ≤ maxLen)) (ht : Box (t.size ≤ maxLen)) (hQl : Box (Q.length ≤ maxLen)) (hQ : Fs w a Q) (hb : Box (b.size ≤ maxLen)) (hr : Box (r.size ≤ maxLen)) (hLl : Box (L.length ≤ maxLen)) (hL : Fs w a' L) (hc : Box (c.size ≤ maxLen)) (HNQ : Box (Q.length = nq)) (HNL : Box (L.length = nl)) (hW : Tabs w) :
    Calls Tryz.prog 5 #[.agg #[.string m, .string t, .int .i64 n, .slice a nq cap, .string b], .agg #[.int .i64 k, .int .i64 s, .string r, .slice a' nl cap', .string c]] w fun e w' => e = .returned (.bool true) ∧ Below w.heap.size w w' := by
  have T0 := box (Two.new (w := w) (c0 := .string m) (c1 := .string t) (c2 := .int .i64 n) (c3 := .slice a nq cap) (c4 := .string b) (d0 := .int .i64 k) (d1 := .int .i64 s) (d2 := .string r) (d3 := .slice a' nl cap') (d4 := .string c) 24 26 hQ hL)
  have W0 := box hW
  clear hQ hL hW
  obtain ⟨v, hv⟩ : ∃ v, storV m.data.toList s Q L = v := ⟨_, rfl⟩
  have HV := box hv
  have HND : Box (v = true → (m.toList == [71, 69, 84]) = true ∧ (s == 200) = true ∧ (0 < lifS L ∨ valT L = true)) := box (fun h => by
    rw [h] at hv
    have := stor_needs hv
    rw [toList_data]; exact this)
  clear hv
  go_enter Tryz.func5, Tryz.ntmps5
  go_wp2_with fail
  refine (kReq24_is hm.out ht.out hb.out hQl T0.out.f HNQ).mono ?_; rintro e w1 ⟨⟨q1, rfl, hq1⟩, hb1⟩
  have T1 := box (T0.out.next hb1)
  clear hb1
  cases q1 with
  | false =>
    go_wp2
    go_ret
    exact ⟨rfl, T1.out.b⟩
  | true =>
    obtain ⟨e0, e1, e2, e3, e4, f0, f1, f2, f3, f4⟩ := T1.out.cells
    go_wp2_with fail
    refine (kRes24_is hr.out hc.out hLl T1.out.g HNL).mono ?_; rintro e w2 ⟨⟨q2, rfl, hq2⟩, hb2⟩
    have T2 := box (T1.out.next hb2)
    clear hb2 e0 e1 e2 e3 e4 f0 f1 f2 f3 f4
    cases q2 with
    | false =>
      go_wp2
      go_ret
      exact ⟨rfl, T2.out.b⟩
    | true =>
      have kQ := (hq1 (by simp)).2.2.1
      have kL := (hq2 (by simp)).2.1
      have SQ := box (keep_sm7 kQ)
      have VQ := box (keep_get kQ)
      have SL := box (keep_sm7 kL)
      have VL := box (keep_get kL)
      clear hq1 hq2 kQ kL
      obtain ⟨e0, e1, e2, e3, e4, f0, f1, f2, f3, f4⟩ := T2.out.cells
      go_wp2_with fail
      refine (mStor_is SQ VQ T2.out.f HNQ SL VL T2.out.g HNL (W0.out.below T2.out.b) HV).mono ?_; rintro e w3 ⟨rfl, hb3⟩
      have T3 := box (T2.out.next hb3)
      clear hb3 e0 e1 e2 e3 e4 f0 f1 f2 f3 f4
      cases v with
      | false =>
        go_wp2_with fail
        refine (awake24_any _ (W0.out.below T3.out.b)).mono ?_; rintro e w4 ⟨rfl, hb4⟩
        have T4 := box (T3.out.next hb4)
        clear hb4
        go_wp2
        go_ret
        exact ⟨rfl, T4.out.b⟩
      | true =>
        obtain ⟨hg, hs, hlv⟩ := HND.out rfl
        have HU : Box (unsB m.data.toList = false) := box (uns_get (by rw [← toList_data]; exact hg))
        obtain ⟨x, hx⟩ : ∃ x, lifS L = x := ⟨_, rfl⟩
        obtain ⟨y, hy⟩ : ∃ y, valT L = y := ⟨_, rfl⟩
        rw [hx, hy] at hlv
        have HX := box hx
        have HY := box hy
        clear hx hy HND
        obtain ⟨e0, e1, e2, e3, e4, f0, f1, f2, f3, f4⟩ := T3.out.cells
        by_cases h0 : 0 < x
        · have hx0 : decide (0 < x) = true := decide_eq_true h0
          clear hlv
          go_wp2_with fail
          refine (rLife24_is SL VL (box T3.out.g) HX HNL).mono ?_; rintro e w4 ⟨rfl, hb4⟩
          have T4 := box (T3.out.next hb4)
          clear hb4 e0 e1 e2 e3 e4 f0 f1 f2 f3 f4
          obtain ⟨e0, e1, e2, e3, e4, f0, f1, f2, f3, f4⟩ := T4.out.cells
          go_wp2_with fail
          refine (mUns24_is HU).mono ?_; rintro e w5 ⟨rfl, rfl⟩
          go_wp2_with fail
          refine (awake24_any _ (W0.out.below T4.out.b)).mono ?_; rintro e w6 ⟨rfl, hb6⟩
          have T6 := box (T4.out.next hb6)
          clear hb6
          go_wp2
          go_ret
          exact ⟨rfl, T6.out.b⟩
        · have hx0 : decide (0 < x) = false := decide_eq_false h0
          have hyt : y = true := by rcases hlv with h | h; exact absurd h h0; exact h
          subst hyt
          clear hlv
          go_wp2_with fail
          refine (rLife24_is SL VL (box T3.out.g) HX HNL).mono ?_; rintro e w4 ⟨rfl, hb4⟩
          have T4 := box (T3.out.next hb4)
          clear hb4 e0 e1 e2 e3 e4 f0 f1 f2 f3 f4
          obtain ⟨e0, e1, e2, e3, e4, f0, f1, f2, f3, f4⟩ := T4.out.cells
          go_wp2_with fail
          refine (mVal24_is SL VL T4.out.g (W0.out.below T4.out.b) HY HNL).mono ?_; rintro e w5 ⟨rfl, hb5⟩
          have T5 := box (T4.out.next hb5)
          clear hb5 e0 e1 e2 e3 e4 f0 f1 f2 f3 f4
          obtain ⟨e0, e1, e2, e3, e4, f0, f1, f2, f3, f4⟩ := T5.out.cells
          go_wp2_with fail
          refine (mUns24_is HU).mono ?_; rintro e w6 ⟨rfl, rfl⟩
          go_wp2_with fail
          refine (awake24_any _ (W0.out.below T5.out.b)).mono ?_; rintro e w7 ⟨rfl, hb7⟩
          have T7 := box (T5.out.next hb7)
          clear hb7
          go_wp2
          go_ret
          exact ⟨rfl, T7.out.b⟩
theorem needs24_walk (m t : ByteArray) (n : Int) (a : Option Addr) (cap : Nat) (Q : List F) (b : ByteArray) (k s : Int) (r : ByteArray) (a' : Option Addr) (cap' : Nat) (L : List F) (c : ByteArray) (w : World)
    (hm : m.size ≤ maxLen) (ht : t.size ≤ maxLen) (hn : (Lit.int .i64 n).wf = true) (hQl : Q.length ≤ maxLen) (hQ : Fs w a Q) (hb : b.size ≤ maxLen) (hk : (Lit.int .i64 k).wf = true) (hs : (Lit.int .i64 s).wf = true) (hr : r.size ≤ maxLen) (hLl : L.length ≤ maxLen) (hL : Fs w a' L) (hc : c.size ≤ maxLen) (hW : Tabs w) :
    Calls Tryz.prog 5 #[rqV m t n a cap Q b, rsV k s r a' cap' L c] w fun e w' => e = .returned (.bool true) ∧ Below w.heap.size w w' :=
  needs24_in m t n a cap _ Q b k s r a' cap' _ L c w (box hm) (box ht) (box hQl) hQ (box hb) (box hr) (box hLl) hL (box hc) (box rfl) (box rfl) hW
end
end Go.Proofs.YtiogngfemelifaaGreatDoor.Asc
