/- Merged texts: CtlMine3 CtlRef. -/
import Derived.Test.YtlcojfkkeommoaaZs03
import Derived.Test.YtlcojfkkeommoaaZs04
import Derived.Test.YtlcojfkkeommoaaZs05
import Derived.Test.YtlcojfkkeommoaaZs06
import Derived.LoopTactic
set_option linter.unusedVariables false
set_option linter.unusedSimpArgs false
set_option maxRecDepth 100000
namespace Go.Proofs.Ytlcojfkkeommoaa.Asc
section
open Go.RowKit
def toL (K : List ByteArray) : List (List UInt8) := K.map fun x => x.data.toList
theorem toL_len (K : List ByteArray) : (toL K).length = K.length := by simp [toL]
theorem toL_at {K : List ByteArray} {k : Nat} (h : k < K.length) (h2 : k < (toL K).length) : (toL K)[k] = K[k].data.toList := by simp [toL]
theorem toL_bs (M : List (List UInt8)) : toL (M.map bs) = M := by
  unfold toL; rw [List.map_map]
  conv => rhs; rw [← List.map_id M]
  apply List.map_congr_left
  intro x _; rfl
theorem toL_all (nm : ByteArray) (L : List F) : toL (allB nm L) = allL nm L := toL_bs _
theorem allB_small22 {nm : ByteArray} {L : List F} (h : ∀ x ∈ getL nm L, x.size ≤ 65000) : ∀ m ∈ allB nm L, m.size ≤ 65000 := by
  intro m hm
  unfold allB at hm
  obtain ⟨l, hl, rfl⟩ := List.mem_map.1 hm
  have h1 := List.mem_of_mem_take hl
  unfold allF at h1
  obtain ⟨v, hv, h2⟩ := List.mem_flatMap.1 h1
  have h3 := split_small h2
  have h4 := h v hv
  have e : v.data.toList.length = v.size := by simp
  have e2 : (bs l).size = l.length := rfl
  omega
theorem mAll22_is {a : Option Addr} {cap n : Nat} {L : List F} {nm : ByteArray} {K : List ByteArray} {w : World} (S : Box (Sm L)) (hv : Box (∀ x ∈ getL nm L, x.size ≤ 65000)) (M : nm.size ≤ 65536) (hF : Box (Fs w a L)) (h : Box (allB nm L = K)) (hn : Box (K.length = n)) :
    Calls Try.prog 23 #[.slice a L.length cap, .string nm] w fun e w' => ∃ p c, e = .returned (.slice p n c) ∧ OwnS w' w.heap.size (.slice p n c) K ∧ Below w.heap.size w w' :=
  (mAll_any a cap L nm w S hv (box M) hF).mono fun e w' ⟨v, h1, h2, h3⟩ => by
    rw [h.out] at h2
    obtain ⟨p, c, rfl, h4, h5⟩ := h2.ss
    rw [hn.out] at h1 h2
    exact ⟨p, c, h1, h2, h3⟩
theorem own_ss {w : World} {B : Nat} {p : Option Addr} {n c : Nat} {K : List ByteArray} (h : OwnS w B (.slice p n c) K) : Ss w p K := by
  obtain ⟨a, cap, e, hs, _⟩ := h.ss
  cases e
  exact hs
def ctM : CT := ⟨false, false, false, false, false, false, false, -1, -1, -1, -1⟩
/-- k members have been read into the control at block g -/
def RspRel (K : List ByteArray) (p : Option Addr) (n c : Nat) (w : World) (i : Value) (wr : World) : Prop :=
  ∃ k : Nat, i = .int .i64 k ∧ k ≤ n ∧ Box (Ct (w.heap.size + 1) (ctl0 ((toL K).take k)) wr) ∧ Box (Ct w.heap.size ct0 wr) ∧ Box (OwnS wr (w.heap.size + 2) (.slice p n c) K) ∧ Box (Below w.heap.size w wr)
theorem resp_full {M : List (List UInt8)} (h : 64 ≤ M.length) : respC M = { ctl0 M with ns := true } := by unfold respC; rw [decide_eq_true h, Bool.or_true]
theorem resp_not {M : List (List UInt8)} (h : ¬ 64 ≤ M.length) : respC M = ctl0 M := by unfold respC; rw [decide_eq_false h, Bool.or_false]; rfl
set_option maxHeartbeats 4000000 in
theorem mResp_any (a : Option Addr) (cap : Nat) (L : List F) (w : World) (S : Box (Sm L)) (hv : Box (∀ x ∈ getL ccN L, x.size ≤ 65000)) (hF : Box (Fs w a L)) (c : CT) (HC : Box (respC (allL ccN L) = c)) :
    Calls Try.prog 9 #[.slice a L.length cap] w fun e w' => e = .returned (ctV c) ∧ Below w.heap.size w w' := by
  obtain ⟨K, hK⟩ : ∃ K, allB ccN L = K := ⟨_, rfl⟩
  obtain ⟨n, hn⟩ : ∃ n, K.length = n := ⟨_, rfl⟩
  have HM : Box (allL ccN L = toL K) := box (by rw [← hK, toL_all])
  have HZ : Box (∀ m ∈ K, m.size ≤ 65000) := box (by rw [← hK]; exact allB_small22 hv.out)
  have hn64 : n ≤ 64 := by rw [← hn, ← hK]; unfold allB allL; rw [List.length_map, List.length_take]; omega
  have HK := box hK
  have HNn := box hn
  have hl := S.out.1
  have hcc : ccN.size ≤ 65536 := by decide
  have R0 : Box (Ct w.heap.size ct0 ((w.alloc (.cells (ctA ct0) 25)).alloc (.cells (ctA ctM) 25))) := box ((Ct.new ct0 w 25).next (below_new _ _))
  have C0 : Box (Ct (w.heap.size + 1) ctM ((w.alloc (.cells (ctA ct0) 25)).alloc (.cells (ctA ctM) 25))) := box (by
    have h := Ct.new ctM (w.alloc (.cells (ctA ct0) 25)) 25
    rwa [show (w.alloc (.cells (ctA ct0) 25)).heap.size = w.heap.size + 1 from by simp] at h)
  have B0 : Box (Below w.heap.size w ((w.alloc (.cells (ctA ct0) 25)).alloc (.cells (ctA ctM) 25))) := box
    ((below_new w _).alloc (below_new w _).size _)
  have hsz : ((w.alloc (.cells (ctA ct0) 25)).alloc (.cells (ctA ctM) 25)).heap.size = w.heap.size + 2 := by simp
  have HSZ := box hsz
  have F0 := box (hF.out.below B0.out)
  clear hK hn hsz
  go_enter Try.func9, Try.ntmps9
  go_wp2_with fail
  refine (mAll22_is S hv hcc F0 HK HNn).mono ?_; rintro e w1 ⟨p, cp, rfl, hO1, hb1⟩
  have R1 := box (R0.out.next hb1)
  have C1 := box (C0.out.next hb1)
  have B1 := box (B0.out.trans (hb1.mono B0.out.size))
  have O1 : Box (OwnS w1 (w.heap.size + 2) (.slice p n cp) K) := box (by rw [← HSZ.out]; exact hO1)
  clear hO1 hb1
  go_wp2
  go_loopw [12] (fun i wr => RspRel K p n cp w i wr) (fun i _ => n - (intOf i).toNat)
  case atStart => exact ⟨0, rfl, Nat.zero_le _, box (by rw [List.take_zero]; exact C1.out), R1, O1, B1⟩
  case round =>
    obtain ⟨k, rfl, hk, hC, hR, hO, hbl⟩ := hrel
    by_cases hlt : k < n
    · have hki : (k : Int) < (n : Int) := by omega
      have hkK : k < K.length := by rw [HNn.out]; exact hlt
      obtain ⟨m, hm⟩ : ∃ m, K[k] = m := ⟨_, rfl⟩
      have hmz : m.size ≤ 65000 := by rw [← hm]; exact HZ.out _ (List.getElem_mem hkK)
      obtain ⟨g, off, hga, cA⟩ := own_ss hO.out k hkK
      cases hga
      rw [hm] at cA
      have HS : Box (stepC (ctl0 ((toL K).take k)) (lowL (namD m.data.toList)) (rstD m.data.toList) = ctl0 ((toL K).take (k + 1))) := box (by
        rw [ctl0_more (by rw [toL_len]; exact hkK), toL_at hkK, hm])
      clear hm hkK
      go_wp2_with fail
      refine (apply_any (w.heap.size + 1) _ _ m _ hmz HS hC).mono ?_; rintro e w2 ⟨rfl, hC2, hO2⟩
      have R2 := box (hR.out.only hO2 (by omega))
      have O2 : Box (OwnS w2 (w.heap.size + 2) (.slice (some ⟨g, off, none⟩) n cp) K) := box (own_only hO.out hO2 (by omega))
      have B2 := box (hbl.out.trans (hO2.below (by omega) hbl.out.size))
      have CC2 := box hC2
      clear hC2 hO2 cA
      go_wp2
      go_roundw
      case rel => exact ⟨k + 1, by go_num, hlt, CC2, R2, O2, B2⟩
      case measure => simp [intOf]; omega
    · have hki : ¬ (k : Int) < (n : Int) := by omega
      have hT : (toL K).take k = toL K := List.take_of_length_le (by rw [toL_len, HNn.out]; omega)
      rw [hT] at hC
      have hL : (toL K).length = n := by rw [toL_len]; exact HNn.out
      by_cases h64 : 64 ≤ n
      · have h64i : (64 : Int) ≤ (n : Int) := by omega
        have hc : ({ ctl0 (toL K) with ns := true } : CT) = c := by rw [← HC.out, HM.out, resp_full (by omega)]
        obtain ⟨d, hd⟩ : ∃ d, ctl0 (toL K) = d := ⟨_, rfl⟩
        rw [hd] at hC hc
        obtain ⟨⟨c0, c1, c2, c3, c4, c5, c6, c7, c8, c9, c10⟩, ⟨f0, f1, f2, f3, f4, f5, f6, f7, f8, f9, f10⟩⟩ := hC.out
        obtain ⟨⟨r0, r1, r2, r3, r4, r5, r6, r7, r8, r9, r10⟩, ⟨q0, q1, q2, q3, q4, q5, q6, q7, q8, q9, q10⟩⟩ := hR.out
        clear hT hL hC hR h64 hd
        subst hc
        go_wp2
        (try simp only [Exit.inBlock, Exit.then])
        refine bodyPost_ret (v := ctV { d with ns := true }) (by rw [results_cell22 rfl]; go_simp; rfl) rfl ?_
        exact ⟨rfl, ct_put_below (hbl.out.setCell (p := ⟨w.heap.size + 1, 0, none⟩) (by simp) _) (Nat.le_refl _) { d with ns := true }⟩
      · have h64i : ¬ (64 : Int) ≤ (n : Int) := by omega
        have hc : ctl0 (toL K) = c := by rw [← HC.out, HM.out, resp_not (by omega)]
        rw [hc] at hC
        obtain ⟨⟨c0, c1, c2, c3, c4, c5, c6, c7, c8, c9, c10⟩, _⟩ := hC.out
        obtain ⟨⟨r0, r1, r2, r3, r4, r5, r6, r7, r8, r9, r10⟩, ⟨q0, q1, q2, q3, q4, q5, q6, q7, q8, q9, q10⟩⟩ := hR.out
        clear hT hL hc hC hR h64
        go_wp2
        (try simp only [Exit.inBlock, Exit.then])
        refine bodyPost_ret (v := ctV c) (by rw [results_cell22 rfl]; go_simp; rfl) rfl ?_
        exact ⟨rfl, ct_put_below hbl.out (by omega) c⟩
/-- is a member no-cache? -/
theorem fold22_is {a b : ByteArray} {q : Bool} {w : World} (ha : a.size ≤ 65536) (hb : b.size ≤ 65536) (h : Box (foldL a.data.toList b.data.toList = q)) :
    Calls Try.prog 43 #[.string a, .string b] w fun e w' => e = .returned (.bool q) ∧ Below w.heap.size w w' :=
  (Fold_any a b w (by unfold maxLen; omega) (by unfold maxLen; omega)).mono fun e w' ⟨h1, h2⟩ => ⟨by rw [h1, h.out], h2⟩
theorem mPragma_any (a : Option Addr) (cap : Nat) (L : List F) (w : World) (S : Box (Sm L)) (hv : Box (∀ x ∈ getL pgN L, x.size ≤ 65000)) (hF : Box (Fs w a L)) :
    Calls Try.prog 28 #[.slice a L.length cap] w fun e w' => e = .returned (.bool (pragC (allL pgN L))) ∧ Below w.heap.size w w' := by
  obtain ⟨K, hK⟩ : ∃ K, allB pgN L = K := ⟨_, rfl⟩
  obtain ⟨n, hn⟩ : ∃ n, K.length = n := ⟨_, rfl⟩
  have HM : Box (allL pgN L = toL K) := box (by rw [← hK, toL_all])
  have HZ : Box (∀ m ∈ K, m.size ≤ 65000) := box (by rw [← hK]; exact allB_small22 hv.out)
  have hn64 : n ≤ 64 := by rw [← hn, ← hK]; unfold allB allL; rw [List.length_map, List.length_take]; omega
  have HK := box hK
  have HNn := box hn
  have hl := S.out.1
  have hcc : pgN.size ≤ 65536 := by decide
  have hnc : (⟨#[110, 111, 45, 99, 97, 99, 104, 101]⟩ : ByteArray).size ≤ 65536 := by decide
  clear hK hn
  go_enter Try.func28, Try.ntmps28
  go_wp2_with fail
  refine (mAll22_is S hv hcc hF HK HNn).mono ?_; rintro e w1 ⟨p, cp, rfl, hO1, hb1⟩
  have S1 := box (own_ss hO1)
  have B1 := box hb1
  clear hO1 hb1
  go_wp2
  go_loopw [8] (fun i wr => ∃ k : Nat, i = .int .i64 k ∧ k ≤ n ∧ Box (pragC ((toL K).take k) = false) ∧ Box (Below w1.heap.size w1 wr)) (fun i _ => n - (intOf i).toNat)
  case atStart => exact ⟨0, rfl, Nat.zero_le _, box rfl, box (Below.refl _ _)⟩
  case round =>
    obtain ⟨k, rfl, hk, hP, hbl⟩ := hrel
    by_cases hlt : k < n
    · have hki : (k : Int) < (n : Int) := by omega
      have hkK : k < K.length := by rw [HNn.out]; exact hlt
      obtain ⟨m, hm⟩ : ∃ m, K[k] = m := ⟨_, rfl⟩
      have hmz : m.size ≤ 65536 := by rw [← hm]; have := HZ.out _ (List.getElem_mem hkK); omega
      obtain ⟨g, off, hga, cA⟩ := (S1.out.below hbl.out) k hkK
      cases hga
      rw [hm] at cA
      have hmore := prag_more (P := toL K) (k := k) (by rw [toL_len]; exact hkK)
      rw [toL_at hkK, hm, hP.out, Bool.false_or] at hmore
      rcases hq : foldL m.data.toList ncN with _ | _
      · rw [hq] at hmore
        have HP2 := box hmore
        have HQ : Box (foldL m.data.toList (⟨#[110, 111, 45, 99, 97, 99, 104, 101]⟩ : ByteArray).data.toList = false) := box hq
        clear hm hkK hmore hq
        go_wp2_with fail
        refine (fold22_is hmz hnc HQ).mono ?_; rintro e w2 ⟨rfl, hb2⟩
        have B2 := box (hbl.out.trans (hb2.mono hbl.out.size))
        clear hb2 cA
        go_wp2
        go_roundw
        case rel => exact ⟨k + 1, by go_num, hlt, HP2, B2⟩
        case measure => simp [intOf]; omega
      · rw [hq] at hmore
        have HR : Box (pragC (allL pgN L) = true) := box (by
          rw [HM.out]
          unfold pragC at hmore ⊢
          rw [List.any_eq_true] at hmore ⊢
          obtain ⟨x, hx, h2⟩ := hmore
          exact ⟨x, List.mem_of_mem_take hx, h2⟩)
        have HQ : Box (foldL m.data.toList (⟨#[110, 111, 45, 99, 97, 99, 104, 101]⟩ : ByteArray).data.toList = true) := box hq
        clear hm hkK hmore hq
        go_wp2_with fail
        refine (fold22_is hmz hnc HQ).mono ?_; rintro e w2 ⟨rfl, hb2⟩
        have B2 := box (hbl.out.trans (hb2.mono hbl.out.size))
        clear hb2 cA
        go_wp2
        go_ret
        exact ⟨by rw [HR.out]; rfl, B1.out.trans (B2.out.mono B1.out.size)⟩
    · have hki : ¬ (k : Int) < (n : Int) := by omega
      have HR : Box (pragC (allL pgN L) = false) := box (by
        have hT : (toL K).take k = toL K := List.take_of_length_le (by rw [toL_len, HNn.out]; omega)
        have := hP.out
        rw [hT] at this
        rw [HM.out]; exact this)
      go_wp2
      go_ret
      exact ⟨by rw [HR.out]; rfl, B1.out.trans (hbl.out.mono B1.out.size)⟩
theorem mPragma_is {a : Option Addr} {cap : Nat} {L : List F} {q : Bool} {w : World} (S : Box (Sm L)) (hv : Box (∀ x ∈ getL pgN L, x.size ≤ 65000)) (hF : Box (Fs w a L)) (h : Box (pragC (allL pgN L) = q)) :
    Calls Try.prog 28 #[.slice a L.length cap] w fun e w' => e = .returned (.bool q) ∧ Below w.heap.size w w' :=
  (mPragma_any a cap L w S hv hF).mono fun e w' ⟨h1, h2⟩ => ⟨by rw [h1, h.out], h2⟩
theorem has22_is {a : Option Addr} {cap : Nat} {L : List F} {nm : ByteArray} {q : Bool} {w : World} (S : Box (Sm L)) (M : nm.size ≤ 65536) (hF : Box (Fs w a L)) (h : Box (L.any (nmd nm) = q)) :
    Calls Try.prog 27 #[.slice a L.length cap, .string nm] w fun e w' => e = .returned (.bool q) ∧ Below w.heap.size w w' :=
  (Has_any a cap L nm w S.out.1 S (box M) hF).mono fun e w' ⟨h1, h2⟩ => ⟨by rw [h1, h.out], h2⟩
theorem mResp_is {a : Option Addr} {cap : Nat} {L : List F} {c : CT} {w : World} (S : Box (Sm L)) (hv : Box (∀ x ∈ getL ccN L, x.size ≤ 65000)) (hF : Box (Fs w a L)) (HC : Box (respC (allL ccN L) = c)) :
    Calls Try.prog 9 #[.slice a L.length cap] w fun e w' => e = .returned (.agg #[.bool c.ns, .bool c.nc, .bool c.mr, .bool c.pr, .bool c.pv, .bool c.pb, .bool c.oc, .int .i64 c.ma, .int .i64 c.sm, .int .i64 c.mf, .int .i64 c.ms]) ∧ Below w.heap.size w w' :=
  mResp_any a cap L w S hv hF c HC
theorem req_has (M P : List (List UInt8)) : reqC true M P = respC M := by unfold reqC respC ctl0; simp
theorem req_not {M P : List (List UInt8)} (h : pragC P = false) : reqC false M P = respC M := by unfold reqC respC ctl0; rw [h]; simp
theorem req_yes {M P : List (List UInt8)} (h : pragC P = true) : reqC false M P = { respC M with nc := true } := by unfold reqC respC ctl0; rw [h]; simp
set_option maxHeartbeats 4000000 in
theorem mReqC_any (a : Option Addr) (cap : Nat) (L : List F) (w : World) (S : Box (Sm L)) (hv : Box (∀ nm, ∀ x ∈ getL nm L, x.size ≤ 65000)) (hF : Box (Fs w a L)) (c : CT) (HC : Box (reqC (L.any (nmd ccN)) (allL ccN L) (allL pgN L) = c)) :
    Calls Try.prog 11 #[.slice a L.length cap] w fun e w' => e = .returned (ctV c) ∧ Below w.heap.size w w' := by
  obtain ⟨d, hd⟩ : ∃ d, respC (allL ccN L) = d := ⟨_, rfl⟩
  have HD := box hd
  have hv1 : Box (∀ x ∈ getL ccN L, x.size ≤ 65000) := box (hv.out ccN)
  have hv2 : Box (∀ x ∈ getL pgN L, x.size ≤ 65000) := box (hv.out pgN)
  have hcc : ccN.size ≤ 65536 := by decide
  have hl := S.out.1
  have R0 : Box (Ct w.heap.size ct0 (w.alloc (.cells (ctA ct0) 25))) := box (Ct.new ct0 w 25)
  have B0 : Box (Below w.heap.size w (w.alloc (.cells (ctA ct0) 25))) := box (below_new w _)
  have F0 := box (hF.out.below B0.out)
  rcases hh : L.any (nmd ccN) with _ | _
  · have HH := box hh
    rcases hp : pragC (allL pgN L) with _ | _
    · have HP := box hp
      have hc : d = c := by rw [← hd, ← HC.out, hh, req_not hp]
      subst hc
      clear hd hh hp HC
      go_enter Try.func11, Try.ntmps11
      go_wp2_with fail
      refine (mResp_is S hv1 F0 HD).mono ?_; rintro e w1 ⟨rfl, hb1⟩
      have R1 := box ((R0.out.next hb1).next (below_new w1 (.cells (ctA d) 25)))
      have C1 := box (Ct.new d w1 25)
      have B1 := box ((B0.out.trans (hb1.mono B0.out.size)).trans ((below_new w1 (.cells (ctA d) 25)).mono (B0.out.trans (hb1.mono B0.out.size)).size))
      have hg : w.heap.size < w1.heap.size := (R0.out.next hb1).lt
      have F1 := box ((F0.out.below hb1).below (below_new w1 (.cells (ctA d) 25)))
      clear hb1
      go_wp2_with fail
      refine (has22_is S hcc F1 HH).mono ?_; rintro e w2 ⟨rfl, hb2⟩
      have R2 := box (R1.out.next hb2)
      have C2 := box (C1.out.next hb2)
      have B2 := box (B1.out.trans (hb2.mono B1.out.size))
      have F2 := box (F1.out.below hb2)
      clear hb2
      go_wp2_with fail
      refine (mPragma_is S hv2 F2 HP).mono ?_; rintro e w3 ⟨rfl, hb3⟩
      have R3 := box (R2.out.next hb3)
      have C3 := box (C2.out.next hb3)
      have B3 := box (B2.out.trans (hb3.mono B2.out.size))
      clear hb3
      obtain ⟨⟨c0, c1, c2, c3, c4, c5, c6, c7, c8, c9, c10⟩, ⟨f0, f1, f2, f3, f4, f5, f6, f7, f8, f9, f10⟩⟩ := C3.out
      obtain ⟨⟨r0, r1, r2, r3, r4, r5, r6, r7, r8, r9, r10⟩, ⟨q0, q1, q2, q3, q4, q5, q6, q7, q8, q9, q10⟩⟩ := R3.out
      go_wp2
      (try simp only [Exit.inBlock, Exit.then])
      refine bodyPost_ret (v := ctV d) (by rw [results_cell22 rfl]; go_simp; rfl) rfl ?_
      exact ⟨rfl, ct_put_below B3.out (Nat.le_refl _) d⟩
    · have HP := box hp
      have hc : { d with nc := true } = c := by rw [← hd, ← HC.out, hh, req_yes hp]
      subst hc
      clear hd hh hp HC
      go_enter Try.func11, Try.ntmps11
      go_wp2_with fail
      refine (mResp_is S hv1 F0 HD).mono ?_; rintro e w1 ⟨rfl, hb1⟩
      have R1 := box ((R0.out.next hb1).next (below_new w1 (.cells (ctA d) 25)))
      have C1 := box (Ct.new d w1 25)
      have B1 := box ((B0.out.trans (hb1.mono B0.out.size)).trans ((below_new w1 (.cells (ctA d) 25)).mono (B0.out.trans (hb1.mono B0.out.size)).size))
      have hg : w.heap.size < w1.heap.size := (R0.out.next hb1).lt
      have F1 := box ((F0.out.below hb1).below (below_new w1 (.cells (ctA d) 25)))
      clear hb1
      go_wp2_with fail
      refine (has22_is S hcc F1 HH).mono ?_; rintro e w2 ⟨rfl, hb2⟩
      have R2 := box (R1.out.next hb2)
      have C2 := box (C1.out.next hb2)
      have B2 := box (B1.out.trans (hb2.mono B1.out.size))
      have F2 := box (F1.out.below hb2)
      clear hb2
      go_wp2_with fail
      refine (mPragma_is S hv2 F2 HP).mono ?_; rintro e w3 ⟨rfl, hb3⟩
      have R3 := box (R2.out.next hb3)
      have C3 := box (C2.out.next hb3)
      have B3 := box (B2.out.trans (hb3.mono B2.out.size))
      clear hb3
      obtain ⟨⟨c0, c1, c2, c3, c4, c5, c6, c7, c8, c9, c10⟩, ⟨f0, f1, f2, f3, f4, f5, f6, f7, f8, f9, f10⟩⟩ := C3.out
      obtain ⟨⟨r0, r1, r2, r3, r4, r5, r6, r7, r8, r9, r10⟩, ⟨q0, q1, q2, q3, q4, q5, q6, q7, q8, q9, q10⟩⟩ := R3.out
      go_wp2
      (try simp only [Exit.inBlock, Exit.then])
      refine bodyPost_ret (v := ctV { d with nc := true }) (by rw [results_cell22 rfl]; go_simp; rfl) rfl ?_
      exact ⟨rfl, ct_put_below (B3.out.setCell (p := ⟨w1.heap.size, 1, none⟩) (by simp; omega) _) (Nat.le_refl _) { d with nc := true }⟩
  · have HH := box hh
    have hc : d = c := by rw [← hd, ← HC.out, hh, req_has]
    subst hc
    clear hd hh HC
    go_enter Try.func11, Try.ntmps11
    go_wp2_with fail
    refine (mResp_is S hv1 F0 HD).mono ?_; rintro e w1 ⟨rfl, hb1⟩
    have R1 := box ((R0.out.next hb1).next (below_new w1 (.cells (ctA d) 25)))
    have C1 := box (Ct.new d w1 25)
    have B1 := box ((B0.out.trans (hb1.mono B0.out.size)).trans ((below_new w1 (.cells (ctA d) 25)).mono (B0.out.trans (hb1.mono B0.out.size)).size))
    have hg : w.heap.size < w1.heap.size := (R0.out.next hb1).lt
    have F1 := box ((F0.out.below hb1).below (below_new w1 (.cells (ctA d) 25)))
    clear hb1
    go_wp2_with fail
    refine (has22_is S hcc F1 HH).mono ?_; rintro e w2 ⟨rfl, hb2⟩
    have R2 := box (R1.out.next hb2)
    have C2 := box (C1.out.next hb2)
    have B2 := box (B1.out.trans (hb2.mono B1.out.size))
    have F2 := box (F1.out.below hb2)
    clear hb2
    obtain ⟨⟨c0, c1, c2, c3, c4, c5, c6, c7, c8, c9, c10⟩, ⟨f0, f1, f2, f3, f4, f5, f6, f7, f8, f9, f10⟩⟩ := C2.out
    obtain ⟨⟨r0, r1, r2, r3, r4, r5, r6, r7, r8, r9, r10⟩, ⟨q0, q1, q2, q3, q4, q5, q6, q7, q8, q9, q10⟩⟩ := R2.out
    go_wp2
    (try simp only [Exit.inBlock, Exit.then])
    refine bodyPost_ret (v := ctV d) (by rw [results_cell22 rfl]; go_simp; rfl) rfl ?_
    exact ⟨rfl, ct_put_below B2.out (Nat.le_refl _) d⟩
end
section
open Go.RowKit
theorem rFold22_is {a b : ByteArray} {q : Bool} {w : World} (ha : a.size ≤ 65536) (hb : b.size ≤ 65536) (h : Box (foldL a.data.toList b.data.toList = q)) :
    Calls Try.prog 17 #[.string a, .string b] w fun e w' => e = .returned (.bool q) ∧ Below w.heap.size w w' :=
  (rFold_any a b w (by omega) (by omega)).mono fun e w' ⟨h1, h2⟩ => ⟨by rw [h1, h.out], h2⟩
theorem rToken22_is {s : ByteArray} {b : Bool} {w : World} (hs : s.size ≤ 65536) (h : Box (tokL s.data.toList = b)) :
    Calls Try.prog 14 #[.string s] w fun e w' => e = .returned (.bool b) ∧ w = w' :=
  (rToken_any s w (by unfold maxLen; omega)).mono fun e w' ⟨h1, h2⟩ => ⟨by rw [h1, h.out], h2⟩
theorem rUnq22_is {s : ByteArray} {o : Option (List UInt8)} {w : World} (hs : s.size ≤ 65536) (h : Box (unqL s.data.toList = o)) :
    Calls Try.prog 52 #[.string s] w fun e w' => e = .returned (optV o) ∧ Below w.heap.size w w' :=
  (rUnquote_any s w (by omega)).mono fun e w' ⟨h1, h2⟩ => ⟨by rw [h1, h.out], h2⟩
theorem rNum22_is {s : ByteArray} {o : Option Int} {w : World} (hs : s.size ≤ 65536) (h : Box (numL s.data.toList = o)) :
    Calls Try.prog 40 #[.string s] w fun e w' => e = .returned (numT o) ∧ w = w' :=
  (rNumber_any s w (by unfold maxLen; omega)).mono fun e w' ⟨h1, h2⟩ => ⟨by rw [h1, h.out], h2⟩
/-- the outer loop: no directive of the name so far -/
def DirRel (n : List UInt8) (K : List ByteArray) (w : World) (i : Value) (wr : World) : Prop :=
  ∃ j : Nat, i = .int .i64 j ∧ j ≤ K.length ∧ Box (dirD n ((toL K).take j) = none) ∧ Box (Below w.heap.size w wr)
theorem isD_at {m n : List UInt8} {k : Nat} {t : List UInt8} (h : namD m = t) : isD n m = (!t.isEmpty && foldL t n) := by unfold isD; rw [h]
set_option maxHeartbeats 4000000 in
theorem rDir_any (a : Option Addr) (cap : Nat) (K : List ByteArray) (n : ByteArray) (w : World) (hl : K.length ≤ 65536) (hn : n.size ≤ 65536) (HZ : Box (∀ m ∈ K, m.size ≤ 65000)) (hF : Box (Ss w a K)) :
    Calls Try.prog 25 #[.slice a K.length cap, .string n] w fun e w' => e = .returned (optV (dirD n.data.toList (toL K))) ∧ Below w.heap.size w w' := by
  go_enter Try.func25, Try.ntmps25
  go_wp2
  go_loopw [6] (fun i wr => DirRel n.data.toList K w i wr) (fun i _ => K.length - (intOf i).toNat)
  case atStart => exact ⟨0, rfl, Nat.zero_le _, box rfl, box (Below.refl _ _)⟩
  case round =>
    obtain ⟨j, rfl, hj, hD, hbl⟩ := hrel
    by_cases hlt : j < K.length
    · have hji : (j : Int) < (K.length : Int) := by omega
      obtain ⟨s, hs⟩ : ∃ s, K[j] = s := ⟨_, rfl⟩
      have hsz : s.size ≤ 65000 := by rw [← hs]; exact HZ.out _ (List.getElem_mem hlt)
      obtain ⟨g, off, hga, cA⟩ := (hF.out.below hbl.out) j hlt
      cases hga
      rw [hs] at cA
      have HTL : Box ((toL K)[j]'(by rw [toL_len]; exact hlt) = s.data.toList) := box (by rw [toL_at hlt, hs])
      have HLT : Box (j < (toL K).length) := box (by rw [toL_len]; exact hlt)
      have hz : s.data.toList.length = s.size := by simp
      clear hs
      go_wp2
      go_loop [7] (fun i => ∃ k : Nat, k ≤ s.size ∧ i = .int .i64 k ∧ Box (NamAt s.data.toList k)) (fun i => s.size - (intOf i).toNat)
      case atStart => exact ⟨0, Nat.zero_le _, rfl, box rfl⟩
      case round =>
        obtain ⟨k, hk, rfl, hall⟩ := hrel
        by_cases hkt : k < s.size
        · have hki : (k : Int) < (s.size : Int) := by omega
          have hb := byte_bd s k hkt
          rcases hp : tokI (s[k].toNat) with _ | _
          · have HC := nam_cut (l := s.data.toList) (k := k) (by omega) hall.out (fun h => by rw [Array.getElem_toList]; exact hp)
            have HTB : ∀ w : World, Calls Try.prog 16 #[.int .u8 (s[k].toNat : Int)] w fun e w' => e = .returned (.bool false) ∧ w = w' := fun w => by rw [← hp]; exact rTokenByte_any _ w hb.1 hb.2
            clear hp
            obtain ⟨y, hy⟩ : ∃ y, s.extract 0 k = y := ⟨_, rfl⟩
            obtain ⟨z, hzz⟩ : ∃ z, s.extract k s.size = z := ⟨_, rfl⟩
            have hyl : namD s.data.toList = y.data.toList := by rw [← hy, ext_bs, bs_toList, List.drop_zero]; exact HC.1
            have hzl : rstD s.data.toList = z.data.toList := by rw [← hzz, ext_drop21]; exact HC.2
            have hyk : y.data.toList.length = k := by rw [← hyl, HC.1, List.length_take, hz]; omega
            have hys : y.size ≤ 65536 := by
              have e1 : y.data.toList.length = y.size := by simp
              rw [← e1, hyk]; omega
            have HI := isD_at (n := n.data.toList) (k := k) hyl
            have b0 : (0 : Int) ≤ (k : Int) := by omega
            have b1 : (k : Int) ≤ (s.size : Int) := by omega
            by_cases hk0 : k = 0
            · have HM : Box (dirD n.data.toList ((toL K).take (j + 1)) = none) := box (dir_more HLT.out hD.out (by
                have e : y.data.toList = [] := List.eq_nil_of_length_eq_zero (by rw [hyk]; exact hk0)
                rw [HTL.out, HI, e]; rfl))
              have k0i : ¬ (0 : Int) < (k : Int) := by omega
              clear HI HC hyl hzl hyk hz hall hk0 HTL HLT
              go_wp2_with (go_at_call 16; refine (HTB _).mono ?_; rintro e w' ⟨rfl, rfl⟩)
              go_roundw
              case rel => exact ⟨j + 1, by go_num, hlt, HM, hbl⟩
              case measure => simp [intOf]; omega
            · have k0i : (0 : Int) < (k : Int) := by omega
              have hye : y.data.toList.isEmpty = false := by
                cases hq : y.data.toList with
                | nil => rw [hq] at hyk; exact absurd hyk.symm hk0
                | cons c r => rfl
              rw [hye, Bool.not_false, Bool.true_and] at HI
              rcases hf : foldL y.data.toList n.data.toList with _ | _
              · rw [hf] at HI
                have HM : Box (dirD n.data.toList ((toL K).take (j + 1)) = none) := box (dir_more HLT.out hD.out (by rw [HTL.out]; exact HI))
                have HFF := box hf
                clear HI HC hyl hzl hyk hz hall hk0 hye HTL HLT hf
                go_wp2_with (first | (go_at_call 16; refine (HTB _).mono ?_; rintro e w' ⟨rfl, rfl⟩) | (go_at_call 17; refine (rFold22_is hys hn HFF).mono ?_; rintro e w2 ⟨rfl, hb2⟩; have B2 := box (hbl.out.trans (hb2.mono hbl.out.size)); have c2 := (hb2.cell (cell_lt cA)).trans cA; clear hb2 cA))
                go_roundw
                case rel => exact ⟨j + 1, by go_num, hlt, HM, B2⟩
                case measure => simp [intOf]; omega
              · rw [hf] at HI
                have HM : Box (dirD n.data.toList (toL K) = some z.data.toList) := box (by
                  rw [dir_hit HLT.out hD.out (by rw [HTL.out]; exact HI), HTL.out, hzl])
                have HFF := box hf
                clear HI HC hyl hzl hyk hz hall hk0 hye HTL HLT hf
                go_wp2_with (first | (go_at_call 16; refine (HTB _).mono ?_; rintro e w' ⟨rfl, rfl⟩) | (go_at_call 17; refine (rFold22_is hys hn HFF).mono ?_; rintro e w2 ⟨rfl, hb2⟩; have B2 := box (hbl.out.trans (hb2.mono hbl.out.size)); have c2 := (hb2.cell (cell_lt cA)).trans cA; clear hb2 cA))
                go_ret2
                exact ⟨by rw [HM.out]; rfl, B2.out⟩
          · have HN : Box (NamAt s.data.toList (k + 1)) := box (all_more hall.out hkt hp)
            have HTB : ∀ w : World, Calls Try.prog 16 #[.int .u8 (s[k].toNat : Int)] w fun e w' => e = .returned (.bool true) ∧ w = w' := fun w => by rw [← hp]; exact rTokenByte_any _ w hb.1 hb.2
            clear hp hz hall
            go_wp2_with (go_at_call 16; refine (HTB _).mono ?_; rintro e w' ⟨rfl, rfl⟩)
            go_round
            case rel => exact ⟨k + 1, by omega, by go_num, HN⟩
            case measure => simp [intOf]; omega
        · have hki : ¬ (k : Int) < (s.size : Int) := by omega
          have HC := nam_cut (l := s.data.toList) (k := k) (by omega) hall.out (fun h => absurd h (by rw [hz]; exact hkt))
          obtain ⟨y, hy⟩ : ∃ y, s.extract 0 k = y := ⟨_, rfl⟩
          obtain ⟨z, hzz⟩ : ∃ z, s.extract k s.size = z := ⟨_, rfl⟩
          have hyl : namD s.data.toList = y.data.toList := by rw [← hy, ext_bs, bs_toList, List.drop_zero]; exact HC.1
          have hzl : rstD s.data.toList = z.data.toList := by rw [← hzz, ext_drop21]; exact HC.2
          have hyk : y.data.toList.length = k := by rw [← hyl, HC.1, List.length_take, hz]; omega
          have hys : y.size ≤ 65536 := by
            have e1 : y.data.toList.length = y.size := by simp
            rw [← e1, hyk]; omega
          have HI := isD_at (n := n.data.toList) (k := k) hyl
          have b0 : (0 : Int) ≤ (k : Int) := by omega
          have b1 : (k : Int) ≤ (s.size : Int) := by omega
          by_cases hk0 : k = 0
          · have HM : Box (dirD n.data.toList ((toL K).take (j + 1)) = none) := box (dir_more HLT.out hD.out (by
              have e : y.data.toList = [] := List.eq_nil_of_length_eq_zero (by rw [hyk]; exact hk0)
              rw [HTL.out, HI, e]; rfl))
            have k0i : ¬ (0 : Int) < (k : Int) := by omega
            clear HI HC hyl hzl hyk hz hall hk0 HTL HLT
            go_wp2
            go_roundw
            case rel => exact ⟨j + 1, by go_num, hlt, HM, hbl⟩
            case measure => simp [intOf]; omega
          · have k0i : (0 : Int) < (k : Int) := by omega
            have hye : y.data.toList.isEmpty = false := by
              cases hq : y.data.toList with
              | nil => rw [hq] at hyk; exact absurd hyk.symm hk0
              | cons c r => rfl
            rw [hye, Bool.not_false, Bool.true_and] at HI
            rcases hf : foldL y.data.toList n.data.toList with _ | _
            · rw [hf] at HI
              have HM : Box (dirD n.data.toList ((toL K).take (j + 1)) = none) := box (dir_more HLT.out hD.out (by rw [HTL.out]; exact HI))
              have HFF := box hf
              clear HI HC hyl hzl hyk hz hall hk0 hye HTL HLT hf
              go_wp2_with (go_at_call 17; refine (rFold22_is hys hn HFF).mono ?_; rintro e w2 ⟨rfl, hb2⟩; have B2 := box (hbl.out.trans (hb2.mono hbl.out.size)); have c2 := (hb2.cell (cell_lt cA)).trans cA; clear hb2 cA)
              go_roundw
              case rel => exact ⟨j + 1, by go_num, hlt, HM, B2⟩
              case measure => simp [intOf]; omega
            · rw [hf] at HI
              have HM : Box (dirD n.data.toList (toL K) = some z.data.toList) := box (by
                rw [dir_hit HLT.out hD.out (by rw [HTL.out]; exact HI), HTL.out, hzl])
              have HFF := box hf
              clear HI HC hyl hzl hyk hz hall hk0 hye HTL HLT hf
              go_wp2_with (go_at_call 17; refine (rFold22_is hys hn HFF).mono ?_; rintro e w2 ⟨rfl, hb2⟩; have B2 := box (hbl.out.trans (hb2.mono hbl.out.size)); have c2 := (hb2.cell (cell_lt cA)).trans cA; clear hb2 cA)
              go_ret2
              exact ⟨by rw [HM.out]; rfl, B2.out⟩
    · have hji : ¬ (j : Int) < (K.length : Int) := by omega
      have HR : Box (dirD n.data.toList (toL K) = none) := box (by
        have := hD.out
        rwa [List.take_of_length_le (by rw [toL_len]; omega)] at this)
      go_wp2
      go_ret2
      exact ⟨by rw [HR.out]; rfl, hbl.out⟩
theorem optV_some22 (s : ByteArray) : optV (some s.data.toList) = .tuple #[.string s, .bool true] := rfl
theorem rArg_any (s : ByteArray) (w : World) (hs : s.size ≤ 65000) :
    Calls Try.prog 39 #[.string s] w fun e w' => e = .returned (optV (argD s.data.toList)) ∧ Below w.heap.size w w' := by
  by_cases hn : s.data.toList = []
  · have h0 : (s.toList == []) = true := by rw [toList_data, hn]; rfl
    have HA : Box (argD s.data.toList = none) := box (by rw [hn]; rfl)
    clear hn
    go_enter Try.func39, Try.ntmps39
    go_wp2
    go_ret2
    exact ⟨by rw [HA.out]; rfl, Below.refl _ _⟩
  · have h0 : (s.toList == []) = false := by rw [toList_data, beq_eq_false_iff_ne]; exact hn
    have hz : s.data.toList.length = s.size := by simp
    have hp : 0 < s.size := by
      rw [← hz]; exact List.length_pos_iff.2 hn
    have hpi : (0 : Int) < (s.size : Int) := by omega
    have hcons : s.data.toList = s[0] :: s.data.toList.drop 1 := drop_cons s 0 hp
    have hA := argD_cons s[0] (s.data.toList.drop 1)
    rw [← hcons] at hA
    by_cases hc : s[0] = 61
    · have h1 : ((s[0].toNat : Int) != 61) = false := by rw [hc]; rfl
      rw [if_pos hc] at hA
      obtain ⟨x, hx⟩ : ∃ x, s.extract 1 s.size = x := ⟨_, rfl⟩
      have hxl : x.data.toList = s.data.toList.drop 1 := by rw [← hx]; exact ext_drop21 1
      have hxs : x.size ≤ 65536 := by
        have e1 : x.data.toList.length = x.size := by simp
        rw [← e1, hxl, List.length_drop]; omega
      rw [← hxl] at hA
      have h1i : (1 : Int) ≤ (s.size : Int) := by omega
      clear hn hc hcons hxl hz
      rcases ht : tokL x.data.toList with _ | _
      · rw [ht, if_neg (by decide)] at hA
        have HT := box ht
        obtain ⟨o, ho⟩ : ∃ o, unqL x.data.toList = o := ⟨_, rfl⟩
        have HO := box ho
        rw [ho] at hA
        have HA := box hA
        clear ht hA ho
        go_enter Try.func39, Try.ntmps39
        go_wp2_with fail
        refine (rToken22_is hxs HT).mono ?_; rintro e w1 ⟨rfl, rfl⟩
        go_wp2_with fail
        refine (rUnq22_is hxs HO).mono ?_; rintro e w2 ⟨rfl, hb⟩
        have B := box hb
        clear hb
        rcases o with _ | u
        · unfold optV
          go_wp2
          go_ret2
          exact ⟨by rw [HA.out]; rfl, B.out⟩
        · unfold optV
          go_wp2
          go_ret2
          exact ⟨by rw [HA.out]; rfl, B.out⟩
      · rw [ht, if_pos rfl] at hA
        have HT := box ht
        have HA := box hA
        clear ht hA
        go_enter Try.func39, Try.ntmps39
        go_wp2_with fail
        refine (rToken22_is hxs HT).mono ?_; rintro e w1 ⟨rfl, rfl⟩
        go_wp2
        go_ret2
        exact ⟨by rw [HA.out]; rfl, Below.refl _ _⟩
    · have h1 : ((s[0].toNat : Int) != 61) = true := by
        rw [bne_iff_ne]; intro e
        exact hc (byte_eq (n := 61) (by simpa using e) (by decide))
      rw [if_neg hc] at hA
      have HA := box hA
      clear hn hc hcons hA hz
      go_enter Try.func39, Try.ntmps39
      go_wp2
      go_ret2
      exact ⟨by rw [HA.out]; rfl, Below.refl _ _⟩
theorem rArg_is {s : ByteArray} {o : Option (List UInt8)} {w : World} (hs : s.size ≤ 65000) (h : Box (argD s.data.toList = o)) :
    Calls Try.prog 39 #[.string s] w fun e w' => e = .returned (optV o) ∧ Below w.heap.size w w' :=
  (rArg_any s w hs).mono fun e w' ⟨h1, h2⟩ => ⟨by rw [h1, h.out], h2⟩
theorem rDir_is {a : Option Addr} {cap m : Nat} {K : List ByteArray} {n : ByteArray} {o : Option (List UInt8)} {w : World} (hm : Box (K.length = m)) (hl : m ≤ 65536) (hn : n.size ≤ 65536) (HZ : Box (∀ m ∈ K, m.size ≤ 65000)) (hF : Box (Ss w a K)) (h : Box (dirD n.data.toList (toL K) = o)) :
    Calls Try.prog 25 #[.slice a m cap, .string n] w fun e w' => e = .returned (optV o) ∧ Below w.heap.size w w' := by
  have := rDir_any a cap K n w (by rw [hm.out]; exact hl) hn HZ hF
  rw [h.out, hm.out] at this
  exact this
theorem dir_len {n : List UInt8} {M : List (List UInt8)} {r : List UInt8} (h : dirD n M = some r) : ∃ m ∈ M, r.length ≤ m.length := by
  unfold dirD at h
  obtain ⟨m, hm, rfl⟩ := Option.map_eq_some_iff.1 h
  exact ⟨m, List.mem_of_find?_eq_some hm, rst_len m⟩
theorem rSec_any (a : Option Addr) (cap m : Nat) (K : List ByteArray) (n : ByteArray) (bare bad : Int) (w : World) (hm : Box (K.length = m)) (hl : m ≤ 65536) (hn : n.size ≤ 65536) (HZ : Box (∀ m ∈ K, m.size ≤ 65000)) (hF : Box (Ss w a K)) :
    Calls Try.prog 26 #[.slice a m cap, .string n, .int .i64 bare, .int .i64 bad] w fun e w' => e = .returned (.int .i64 (secD n.data.toList bare bad (toL K))) ∧ Below w.heap.size w w' := by
  obtain ⟨o, ho⟩ : ∃ o, dirD n.data.toList (toL K) = o := ⟨_, rfl⟩
  have HO := box ho
  have HSE : Box (secD n.data.toList bare bad (toL K) = secO bare bad o) := box (by unfold secD; rw [ho])
  rcases o with _ | r
  · clear ho
    go_enter Try.func26, Try.ntmps26
    go_wp2_with fail
    refine (rDir_is hm hl hn HZ hF HO).mono ?_; rintro e w1 ⟨rfl, hb⟩
    have B := box hb
    clear hb
    unfold optV
    go_wp2
    go_ret
    exact ⟨by rw [HSE.out]; rfl, B.out⟩
  · have hrz : (bs r).size ≤ 65000 := by
      obtain ⟨x, hx, hle⟩ := dir_len ho
      unfold toL at hx
      obtain ⟨y, hy, rfl⟩ := List.mem_map.1 hx
      have h1 := HZ.out y hy
      have e1 : y.data.toList.length = y.size := by simp
      have e2 : (bs r).size = r.length := rfl
      omega
    obtain ⟨s, hs⟩ : ∃ s, bs r = s := ⟨_, rfl⟩
    have hrs : r = s.data.toList := by rw [← hs, bs_toList]
    rw [hs] at hrz
    subst hrs
    clear ho hs
    have hse : bs s.data.toList = s := bs_all22 s
    by_cases he : s.data.toList = []
    · have h0 : (s.toList == []) = true := by rw [toList_data, he]; rfl
      have HN : Box (secO bare bad (some s.data.toList) = bare) := box (by show numD bare bad _ = _; unfold numD; rw [if_pos he])
      clear he
      go_enter Try.func26, Try.ntmps26
      go_wp2_with fail
      refine (rDir_is hm hl hn HZ hF HO).mono ?_; rintro e w1 ⟨rfl, hb⟩
      have B := box hb
      clear hb
      rw [optV_some22]
      clear hse
      go_wp2
      go_ret
      exact ⟨by rw [HSE.out, HN.out]; rfl, B.out⟩
    · have h0 : (s.toList == []) = false := by rw [toList_data, beq_eq_false_iff_ne]; exact he
      have hN : secO bare bad (some s.data.toList) = (numL ((argD s.data.toList).getD [])).getD bad := numD_alt he bare bad
      have hal := argD_len s.data.toList
      have hsz : s.data.toList.length = s.size := by simp
      clear he
      obtain ⟨o, ho⟩ : ∃ o, argD s.data.toList = o := ⟨_, rfl⟩
      have HA := box ho
      rw [ho] at hN hal
      clear ho
      rcases o with _ | u
      · have HN : Box (secO bare bad (some s.data.toList) = bad) := box (by rw [hN]; rfl)
        have HU : Box (numL (⟨#[]⟩ : ByteArray).data.toList = none) := box rfl
        have h00 : (⟨#[]⟩ : ByteArray).size ≤ 65536 := by decide
        clear hN hal hsz
        go_enter Try.func26, Try.ntmps26
        go_wp2_with fail
        refine (rDir_is hm hl hn HZ hF HO).mono ?_; rintro e w1 ⟨rfl, hb⟩
        have B := box hb
        clear hb
        rw [optV_some22]
        clear hse
        go_wp2_with fail
        refine (rArg_is hrz HA).mono ?_; rintro e w2 ⟨rfl, hb⟩
        have B2 := box (B.out.trans (hb.mono B.out.size))
        clear hb
        unfold optV
        go_wp2_with fail
        refine (rNum22_is h00 HU).mono ?_; rintro e w3 ⟨rfl, rfl⟩
        unfold numT numV
        go_wp2
        go_ret
        exact ⟨by rw [HSE.out, HN.out]; rfl, B2.out⟩
      · have hus : (bs u).size ≤ 65536 := by
          have e2 : (bs u).size = u.length := rfl
          simp only [Option.getD_some] at hal
          omega
        simp only [Option.getD_some] at hN
        obtain ⟨v, hv⟩ : ∃ v, numL u = v := ⟨_, rfl⟩
        have HU : Box (numL (bs u).data.toList = v) := box hv
        rw [hv] at hN
        have HN := box hN
        clear hN hal hsz hv
        rcases v with _ | v
        · go_enter Try.func26, Try.ntmps26
          go_wp2_with fail
          refine (rDir_is hm hl hn HZ hF HO).mono ?_; rintro e w1 ⟨rfl, hb⟩
          have B := box hb
          clear hb
          rw [optV_some22]
          clear hse
          go_wp2_with fail
          refine (rArg_is hrz HA).mono ?_; rintro e w2 ⟨rfl, hb⟩
          have B2 := box (B.out.trans (hb.mono B.out.size))
          clear hb
          unfold optV
          go_wp2_with fail
          refine (rNum22_is hus HU).mono ?_; rintro e w3 ⟨rfl, rfl⟩
          unfold numT numV
          go_wp2
          go_ret
          exact ⟨by rw [HSE.out, HN.out]; rfl, B2.out⟩
        · go_enter Try.func26, Try.ntmps26
          go_wp2_with fail
          refine (rDir_is hm hl hn HZ hF HO).mono ?_; rintro e w1 ⟨rfl, hb⟩
          have B := box hb
          clear hb
          rw [optV_some22]
          clear hse
          go_wp2_with fail
          refine (rArg_is hrz HA).mono ?_; rintro e w2 ⟨rfl, hb⟩
          have B2 := box (B.out.trans (hb.mono B.out.size))
          clear hb
          unfold optV
          go_wp2_with fail
          refine (rNum22_is hus HU).mono ?_; rintro e w3 ⟨rfl, rfl⟩
          unfold numT numV
          go_wp2
          go_ret
          exact ⟨by rw [HSE.out, HN.out]; rfl, B2.out⟩
theorem rSec_is {a : Option Addr} {cap m : Nat} {K : List ByteArray} {n : ByteArray} {bare bad v : Int} {w : World} (hm : Box (K.length = m)) (hl : m ≤ 65536) (hn : n.size ≤ 65536) (HZ : Box (∀ m ∈ K, m.size ≤ 65000)) (hF : Box (Ss w a K)) (h : Box (secD n.data.toList bare bad (toL K) = v)) :
    Calls Try.prog 26 #[.slice a m cap, .string n, .int .i64 bare, .int .i64 bad] w fun e w' => e = .returned (.int .i64 v) ∧ Below w.heap.size w w' :=
  (rSec_any a cap m K n bare bad w hm hl hn HZ hF).mono fun e w' ⟨h1, h2⟩ => ⟨by rw [h1, h.out], h2⟩
end
end Go.Proofs.Ytlcojfkkeommoaa.Asc
