/- Merged texts: LisApp2 CtlMine3 DatMine DatMine2 AscDec DatMine3 DatMine4. -/
import Derived.Test.YteemoibikkmlbaaDoorZs01
import Derived.Test.YteemoibikkmlbaaDoorZs03
import Derived.Test.YteemoibikkmlbaaDoorZs04
import Derived.Test.YteemoibikkmlbaaDoorZs05
import Derived.Test.YteemoibikkmlbaaDoorZs06
import Derived.Deep.RegionHeld3
import Derived.OwnWalk
set_option linter.unusedVariables false
set_option linter.unusedSimpArgs false
set_option maxRecDepth 100000
namespace Go.Proofs.YteemoibikkmlbaaDoor.Asc
section
open Go.RowKit
theorem aTrim_is {s x : ByteArray} {w : World} (hs : s.size ≤ maxLen) (h : Box (bs (trimL s.data.toList) = x)) :
    Calls Tryd.prog 62 #[.string s] w fun e w' => e = .returned (.string x) ∧ w = w' :=
  (Trim_any s w hs).mono fun e w' ⟨h1, h2⟩ => ⟨by rw [h1, ← h.out]; rfl, by first | exact h2 | exact h2.symm⟩
def AppRel (T : List (List UInt8)) (B n : Nat) (w : World) (v r m : Value) (wr : World) : Prop :=
  ∃ (M : List (List UInt8)) (t : ByteArray) (b : Bool), r = .string t ∧ m = .bool b ∧ t.size ≤ n ∧ M.length ≤ 64 ∧ T = addL M (moreL 44 b t.data.toList) ∧ OwnS wr B v (M.map bs) ∧ Below B w wr
def msr (m r : Value) : Nat := match m, r with | .bool true, .string t => t.size + 1 | _, _ => 0
set_option maxHeartbeats 4000000 in
theorem appMem_any (B : Nat) (v : Value) (A : List (List UInt8)) (s : ByteArray) (w : World) (hs : s.size ≤ 65000) (hO : Box (OwnS w B v (A.map bs))) (hB : B ≤ w.heap.size) (hA : A.length ≤ 64) :
    Calls Tryd.prog 42 #[v, .string s] w fun e w' => ∃ v', e = .returned v' ∧ OwnS w' B v' ((addL A (cutL 44 s.data.toList)).map bs) ∧ Below B w w' := by
  obtain ⟨T, hT⟩ : ∃ T, addL A (cutL 44 s.data.toList) = T := ⟨_, rfl⟩
  have HT := box hT
  rw [hT]
  clear hT
  obtain ⟨av, cv, rfl, _, _⟩ := hO.out.ss
  rw [List.length_map] at hO ⊢
  go_enter Tryd.func42, Tryd.ntmps42
  go_wp2
  go_loopw [0, 5, 6] (fun v r m wr => AppRel T B s.size w v r m wr) (fun _ r m _ => msr m r)
  case atStart => exact ⟨A, s, true, rfl, rfl, Nat.le_refl _, hA, HT.out.symm, hO.out, Below.refl _ _⟩
  case round =>
    obtain ⟨M, t, b, rfl, rfl, hts, hM, hTM, hOM, hbel⟩ := hrel
    have O0 := box hOM
    have BL := box hbel
    have HM := box hTM
    have hBw := Nat.le_trans hB hbel.size
    obtain ⟨av, cv, rfl, _, _⟩ := hOM.ss
    rw [List.length_map] at O0 ⊢
    clear hOM hbel hTM
    rcases b with _ | _
    · have HF : Box (T = M) := box (by rw [HM.out]; exact addL_nil hM)
      go_wp2
      go_ret
      exact ⟨_, rfl, by rw [HF.out]; exact O0.out, BL.out⟩
    · by_cases hm : M.length = 64
      · have hmi : ¬ (M.length : Int) < 64 := by omega
        have HF : Box (T = M) := box (by rw [HM.out]; exact addL_full hm)
        clear hm
        go_wp2
        go_ret
        exact ⟨_, rfl, by rw [HF.out]; exact O0.out, BL.out⟩
      · have hmi : (M.length : Int) < 64 := by omega
        have ht6 : t.size ≤ 65000 := by omega
        obtain ⟨p, r, m, hp⟩ : ∃ p r m, pcL 44 t.data.toList = (p, r, m) := ⟨_, _, _, rfl⟩
        have HV : Box (pcV 44 t.data.toList = .tuple #[.string (bs p), .string (bs r), .bool m]) := box (by unfold pcV; rw [hp])
        have hcut : T = addL M (p :: moreL 44 m r) := by
          have := cutL_pc (sep := 44) (by decide) t.data.toList
          rw [hp] at this
          rw [HM.out]
          show addL M (cutL 44 t.data.toList) = _
          rw [this]
        have hsz := pcF_size 44 t.data.toList 0 []
        rw [show pcF 44 0 t.data.toList [] = (p, r, m) from hp] at hsz
        simp only [List.length_nil, Nat.zero_add] at hsz
        rw [show t.data.toList.length = t.size from by simp] at hsz
        have hrz : (bs r).size ≤ s.size := by rw [bs_size]; omega
        have hms : Box (msr (.bool m) (.string (bs r)) < t.size + 1) := box (by
          cases m
          · exact Nat.zero_lt_succ _
          · show (bs r).size + 1 < t.size + 1
            rw [bs_size]; have := hsz.2 rfl; omega)
        have hpz : (bs p).size ≤ maxLen := by rw [bs_size]; unfold maxLen; omega
        have HCut := box hcut
        clear hp hcut hsz HM
        by_cases htr : trimL p = []
        · have HTr : Box (bs (trimL (bs p).data.toList) = ⟨#[]⟩) := box (by rw [bs_toList, htr]; rfl)
          have HN : Box (T = addL M (moreL 44 m (bs r).data.toList)) := box (by rw [HCut.out, addL_blank htr, bs_toList])
          clear HCut
          go_wp2_with fail
          refine (pieceCut_any t 44 _ ht6).mono ?_; rintro e w1 ⟨rfl, hb1⟩
          rw [HV.out]
          have O1 := box (own_below O0.out hb1)
          have B1 := box (BL.out.trans (hb1.mono hBw))
          clear hb1
          go_wp2_with fail
          refine (aTrim_is hpz HTr).mono ?_; rintro e w2 ⟨rfl, rfl⟩
          go_wp2
          go_roundw
          case rel => exact ⟨M, bs r, m, rfl, rfl, hrz, hM, HN.out, O1.out, B1.out⟩
          case measure => exact hms.out
        · obtain ⟨x, hx⟩ : ∃ x, bs (trimL p) = x := ⟨_, rfl⟩
          have HTr : Box (bs (trimL (bs p).data.toList) = x) := box (by rw [bs_toList, hx])
          have hxe : x.toList.isEmpty = false := by
            rw [← hx, toList_bs]
            cases h : trimL p with
            | nil => exact absurd h htr
            | cons c r => rfl
          have HN : Box (T = addL (M ++ [trimL p]) (moreL 44 m (bs r).data.toList)) := box (by rw [HCut.out, addL_more htr, bs_toList])
          have HX : Box ((M ++ [trimL p]).map bs = M.map bs ++ [x]) := box (by rw [List.map_append, List.map_cons, List.map_nil, hx])
          have hm6 : Box ((M.map bs).length ≤ 65536) := box (by rw [List.length_map]; omega)
          have hml : Box ((M ++ [trimL p]).length ≤ 64) := box (by rw [List.length_append]; simp; omega)
          clear HCut hx
          go_wp2_with fail
          refine (pieceCut_any t 44 _ ht6).mono ?_; rintro e w1 ⟨rfl, hb1⟩
          rw [HV.out]
          have O1 := box (own_below O0.out hb1)
          have B1 := box (BL.out.trans (hb1.mono hBw))
          have hBw1 := Nat.le_trans hBw hb1.size
          clear hb1
          go_wp2_with fail
          refine (aTrim_is hpz HTr).mono ?_; rintro e w2 ⟨rfl, rfl⟩
          go_wp2_with (at_builtin; refine wpList_append_str _ rfl (.tmp 26) (.tmp 28) rfl B _ (M.map bs) rfl ?a1 _ _ rfl x ?b1 ?c1 ?d1 ?_)
          case a1 => exact own_below O1.out (below_new _ _)
          case b1 => go_simp
          case c1 => exact hm6.out
          case d1 => simp; omega
          intro v3 w3 hO3 hb3
          have O3 := box hO3
          have B3 := box ((B1.out.alloc hBw1 _).trans hb3)
          clear hO3 hb3
          go_wp2
          go_roundw
          case rel => exact ⟨M ++ [trimL p], bs r, m, rfl, rfl, hrz, hml.out, HN.out, by rw [HX.out]; exact O3.out, B3.out⟩
          case measure => exact hms.out
set_option maxHeartbeats 4000000 in
theorem mAll_any (a : Option Addr) (cap : Nat) (L : List F) (nm : ByteArray) (w : World) (S : Box (Sm L)) (hv : Box (∀ x ∈ getL nm L, x.size ≤ 65000)) (M : Box (nm.size ≤ 65536)) (hF : Box (Fs w a L)) :
    Calls Tryd.prog 30 #[.slice a L.length cap, .string nm] w fun e w' => ∃ v, e = .returned v ∧ OwnS w' w.heap.size v (allB nm L) ∧ Below w.heap.size w w' := by
  obtain ⟨vs, hvs⟩ : ∃ vs, getL nm L = vs := ⟨_, rfl⟩
  have HVS := box hvs
  have HAL : Box (allB nm L = ((allF vs).take 64).map bs) := box (by unfold allB allL; rw [hvs])
  have hvl : vs.length ≤ 65536 := by
    have := get_le (nm := nm) (L := L) (k := L.length)
    rw [List.take_length, hvs] at this
    have := S.out.1; omega
  rw [hvs] at hv
  clear hvs
  have hl := S.out.1
  go_enter Tryd.func30, Tryd.ntmps30
  go_wp2_with fail
  refine (Get_any a cap L nm _ hl S M hF).mono ?_; rintro e w1 ⟨v1, rfl, hO1, hb1⟩
  rw [HVS.out] at hO1
  obtain ⟨a1, cap1, rfl, hS1, hc1⟩ := hO1.ss
  have S1 := box hS1
  have B1 := box hb1
  have hB1 := hb1.size
  clear hO1 hS1 hb1
  go_wp2
  go_loopw [5, 12] (fun v i wr => AllRel vs w1.heap.size w1 v i wr) (fun _ i _ => vs.length - (intOf i).toNat)
  case atStart => exact ⟨0, rfl, Nat.zero_le _, OwnS.nil _ _, Below.refl _ _⟩
  case round =>
    obtain ⟨k, rfl, hk, hO, hbel⟩ := hrel
    have O0 := box hO
    have BL := box hbel
    have hBw := hbel.size
    clear hO hbel
    by_cases hlt : k < vs.length
    · obtain ⟨q, off, rfl, c0⟩ := (S1.out.below BL.out) k hlt
      have hxz := hv.out vs[k] (List.getElem_mem hlt)
      have HN := box (addL_all hlt)
      have hA64 : ((allF (vs.take k)).take 64).length ≤ 64 := by rw [List.length_take]; omega
      go_wp2_with fail
      refine (appMem_any w1.heap.size _ _ vs[k] _ hxz O0 hBw hA64).mono ?_; rintro e w2 ⟨v2, rfl, hO2, hb2⟩
      have O2 := box hO2
      have B2 := box (BL.out.trans hb2)
      clear hO2 hb2 c0
      go_wp2
      go_roundw
      case rel => exact ⟨k + 1, by go_num, by omega, by rw [HN.out]; exact O2.out, B2.out⟩
      case measure => simp [intOf]; omega
    · have HF : Box ((allF (vs.take k)).take 64 = (allF vs).take 64) := box (by rw [List.take_of_length_le (l := vs) (by omega)])
      rw [HF.out] at O0
      go_wp2
      go_ret
      exact ⟨_, rfl, by rw [HAL.out]; exact Go.Joins.ownsRow_le O0.out hB1, B1.out.trans (BL.out.mono hB1)⟩
end
section
open Go.RowKit
def toL (K : List ByteArray) : List (List UInt8) := K.map fun x => x.data.toList
theorem toL_len (K : List ByteArray) : (toL K).length = K.length := by simp [toL]
theorem toL_at {K : List ByteArray} {k : Nat} (h : k < K.length) (h2 : k < (toL K).length) : (toL K)[k] = K[k].data.toList := by simp [toL]
theorem toL_bs (M : List (List UInt8)) : toL (M.map bs) = M := by
  unfold toL; rw [List.map_map]
  conv => rhs; rw [← List.map_id M]
  apply List.map_congr_left
  intro x _; rfl
theorem toL_all (nm : ByteArray) (L : List F) : toL (allB nm L) = allL nm L := toL_bs _
theorem allB_small22 {nm : ByteArray} {L : List F} (h : ∀ x ∈ getL nm L, x.size ≤ 65000) : ∀ m ∈ allB nm L, m.size ≤ 65000 := by
  intro m hm
  unfold allB at hm
  obtain ⟨l, hl, rfl⟩ := List.mem_map.1 hm
  have h1 := List.mem_of_mem_take hl
  unfold allF at h1
  obtain ⟨v, hv, h2⟩ := List.mem_flatMap.1 h1
  have h3 := split_small h2
  have h4 := h v hv
  have e : v.data.toList.length = v.size := by simp
  have e2 : (bs l).size = l.length := rfl
  omega
theorem mAll22_is {a : Option Addr} {cap n : Nat} {L : List F} {nm : ByteArray} {K : List ByteArray} {w : World} (S : Box (Sm L)) (hv : Box (∀ x ∈ getL nm L, x.size ≤ 65000)) (M : nm.size ≤ 65536) (hF : Box (Fs w a L)) (h : Box (allB nm L = K)) (hn : Box (K.length = n)) :
    Calls Tryd.prog 30 #[.slice a L.length cap, .string nm] w fun e w' => ∃ p c, e = .returned (.slice p n c) ∧ OwnS w' w.heap.size (.slice p n c) K ∧ Below w.heap.size w w' :=
  (mAll_any a cap L nm w S hv (box M) hF).mono fun e w' ⟨v, h1, h2, h3⟩ => by
    rw [h.out] at h2
    obtain ⟨p, c, rfl, h4, h5⟩ := h2.ss
    rw [hn.out] at h1 h2
    exact ⟨p, c, h1, h2, h3⟩
theorem own_ss {w : World} {B : Nat} {p : Option Addr} {n c : Nat} {K : List ByteArray} (h : OwnS w B (.slice p n c) K) : Ss w p K := by
  obtain ⟨a, cap, e, hs, _⟩ := h.ss
  cases e
  exact hs
def ctM : CT := ⟨false, false, false, false, false, false, false, -1, -1, -1, -1⟩
/-- k members have been read into the control at block g -/
def RspRel (K : List ByteArray) (p : Option Addr) (n c : Nat) (w : World) (i : Value) (wr : World) : Prop :=
  ∃ k : Nat, i = .int .i64 k ∧ k ≤ n ∧ Box (Ct (w.heap.size + 1) (ctl0 ((toL K).take k)) wr) ∧ Box (Ct w.heap.size ct0 wr) ∧ Box (OwnS wr (w.heap.size + 2) (.slice p n c) K) ∧ Box (Below w.heap.size w wr)
theorem resp_full {M : List (List UInt8)} (h : 64 ≤ M.length) : respC M = { ctl0 M with ns := true } := by unfold respC; rw [decide_eq_true h, Bool.or_true]
theorem resp_not {M : List (List UInt8)} (h : ¬ 64 ≤ M.length) : respC M = ctl0 M := by unfold respC; rw [decide_eq_false h, Bool.or_false]; rfl
set_option maxHeartbeats 4000000 in
theorem mResp_any (a : Option Addr) (cap : Nat) (L : List F) (w : World) (S : Box (Sm L)) (hv : Box (∀ x ∈ getL ccN L, x.size ≤ 65000)) (hF : Box (Fs w a L)) (c : CT) (HC : Box (respC (allL ccN L) = c)) :
    Calls Tryd.prog 19 #[.slice a L.length cap] w fun e w' => e = .returned (ctV c) ∧ Below w.heap.size w w' := by
  obtain ⟨K, hK⟩ : ∃ K, allB ccN L = K := ⟨_, rfl⟩
  obtain ⟨n, hn⟩ : ∃ n, K.length = n := ⟨_, rfl⟩
  have HM : Box (allL ccN L = toL K) := box (by rw [← hK, toL_all])
  have HZ : Box (∀ m ∈ K, m.size ≤ 65000) := box (by rw [← hK]; exact allB_small22 hv.out)
  have hn64 : n ≤ 64 := by rw [← hn, ← hK]; unfold allB allL; rw [List.length_map, List.length_take]; omega
  have HK := box hK
  have HNn := box hn
  have hl := S.out.1
  have hcc : ccN.size ≤ 65536 := by decide
  have R0 : Box (Ct w.heap.size ct0 ((w.alloc (.cells (ctA ct0) 31)).alloc (.cells (ctA ctM) 31))) := box ((Ct.new ct0 w 31).next (below_new _ _))
  have C0 : Box (Ct (w.heap.size + 1) ctM ((w.alloc (.cells (ctA ct0) 31)).alloc (.cells (ctA ctM) 31))) := box (by
    have h := Ct.new ctM (w.alloc (.cells (ctA ct0) 31)) 31
    rwa [show (w.alloc (.cells (ctA ct0) 31)).heap.size = w.heap.size + 1 from by simp] at h)
  have B0 : Box (Below w.heap.size w ((w.alloc (.cells (ctA ct0) 31)).alloc (.cells (ctA ctM) 31))) := box
    ((below_new w _).alloc (below_new w _).size _)
  have hsz : ((w.alloc (.cells (ctA ct0) 31)).alloc (.cells (ctA ctM) 31)).heap.size = w.heap.size + 2 := by simp
  have HSZ := box hsz
  have F0 := box (hF.out.below B0.out)
  clear hK hn hsz
  go_enter Tryd.func19, Tryd.ntmps19
  go_wp2_with fail
  refine (mAll22_is S hv hcc F0 HK HNn).mono ?_; rintro e w1 ⟨p, cp, rfl, hO1, hb1⟩
  have R1 := box (R0.out.next hb1)
  have C1 := box (C0.out.next hb1)
  have B1 := box (B0.out.trans (hb1.mono B0.out.size))
  have O1 : Box (OwnS w1 (w.heap.size + 2) (.slice p n cp) K) := box (by rw [← HSZ.out]; exact hO1)
  clear hO1 hb1
  go_wp2
  go_loopw [12] (fun i wr => RspRel K p n cp w i wr) (fun i _ => n - (intOf i).toNat)
  case atStart => exact ⟨0, rfl, Nat.zero_le _, box (by rw [List.take_zero]; exact C1.out), R1, O1, B1⟩
  case round =>
    obtain ⟨k, rfl, hk, hC, hR, hO, hbl⟩ := hrel
    by_cases hlt : k < n
    · have hki : (k : Int) < (n : Int) := by omega
      have hkK : k < K.length := by rw [HNn.out]; exact hlt
      obtain ⟨m, hm⟩ : ∃ m, K[k] = m := ⟨_, rfl⟩
      have hmz : m.size ≤ 65000 := by rw [← hm]; exact HZ.out _ (List.getElem_mem hkK)
      obtain ⟨g, off, hga, cA⟩ := own_ss hO.out k hkK
      cases hga
      rw [hm] at cA
      have HS : Box (stepC (ctl0 ((toL K).take k)) (lowL (namD m.data.toList)) (rstD m.data.toList) = ctl0 ((toL K).take (k + 1))) := box (by
        rw [ctl0_more (by rw [toL_len]; exact hkK), toL_at hkK, hm])
      clear hm hkK
      go_wp2_with fail
      refine (apply_any (w.heap.size + 1) _ _ m _ hmz HS hC).mono ?_; rintro e w2 ⟨rfl, hC2, hO2⟩
      have R2 := box (hR.out.only hO2 (by omega))
      have O2 : Box (OwnS w2 (w.heap.size + 2) (.slice (some ⟨g, off, none⟩) n cp) K) := box (own_only hO.out hO2 (by omega))
      have B2 := box (hbl.out.trans (hO2.below (by omega) hbl.out.size))
      have CC2 := box hC2
      clear hC2 hO2 cA
      go_wp2
      go_roundw
      case rel => exact ⟨k + 1, by go_num, hlt, CC2, R2, O2, B2⟩
      case measure => simp [intOf]; omega
    · have hki : ¬ (k : Int) < (n : Int) := by omega
      have hT : (toL K).take k = toL K := List.take_of_length_le (by rw [toL_len, HNn.out]; omega)
      rw [hT] at hC
      have hL : (toL K).length = n := by rw [toL_len]; exact HNn.out
      by_cases h64 : 64 ≤ n
      · have h64i : (64 : Int) ≤ (n : Int) := by omega
        have hc : ({ ctl0 (toL K) with ns := true } : CT) = c := by rw [← HC.out, HM.out, resp_full (by omega)]
        obtain ⟨d, hd⟩ : ∃ d, ctl0 (toL K) = d := ⟨_, rfl⟩
        rw [hd] at hC hc
        obtain ⟨⟨c0, c1, c2, c3, c4, c5, c6, c7, c8, c9, c10⟩, ⟨f0, f1, f2, f3, f4, f5, f6, f7, f8, f9, f10⟩⟩ := hC.out
        obtain ⟨⟨r0, r1, r2, r3, r4, r5, r6, r7, r8, r9, r10⟩, ⟨q0, q1, q2, q3, q4, q5, q6, q7, q8, q9, q10⟩⟩ := hR.out
        clear hT hL hC hR h64 hd
        subst hc
        go_wp2
        (try simp only [Exit.inBlock, Exit.then])
        refine bodyPost_ret (v := ctV { d with ns := true }) (by rw [results_cell22 rfl]; go_simp; rfl) rfl ?_
        exact ⟨rfl, ct_put_below (hbl.out.setCell (p := ⟨w.heap.size + 1, 0, none⟩) (by simp) _) (Nat.le_refl _) { d with ns := true }⟩
      · have h64i : ¬ (64 : Int) ≤ (n : Int) := by omega
        have hc : ctl0 (toL K) = c := by rw [← HC.out, HM.out, resp_not (by omega)]
        rw [hc] at hC
        obtain ⟨⟨c0, c1, c2, c3, c4, c5, c6, c7, c8, c9, c10⟩, _⟩ := hC.out
        obtain ⟨⟨r0, r1, r2, r3, r4, r5, r6, r7, r8, r9, r10⟩, ⟨q0, q1, q2, q3, q4, q5, q6, q7, q8, q9, q10⟩⟩ := hR.out
        clear hT hL hc hC hR h64
        go_wp2
        (try simp only [Exit.inBlock, Exit.then])
        refine bodyPost_ret (v := ctV c) (by rw [results_cell22 rfl]; go_simp; rfl) rfl ?_
        exact ⟨rfl, ct_put_below hbl.out (by omega) c⟩
end
section
open Go.RowKit
/-- the tables, as the program's text lays them -/
structure Tabs (w : World) : Prop where
  wk : ∀ k, k < 7 → w.cell? ⟨1, k, none⟩ = some (.string (bs (wkL k)))
  mo : ∀ k, k < 12 → w.cell? ⟨0, k, none⟩ = some (.string (bs (monL (k + 1))))
  ln : ∀ k, k < 12 → w.cell? ⟨2, k, none⟩ = some (.int .i64 (lenM false (k + 1) : Nat))
  s1 : 1 < w.heap.size
  s2 : 0 < w.heap.size
  s3 : 2 < w.heap.size
theorem Tabs.below {w w' : World} (h : Tabs w) (b : Below w.heap.size w w') : Tabs w' :=
  ⟨fun k q => by rw [b.cell h.s1, h.wk k q], fun k q => by rw [b.cell h.s2, h.mo k q], fun k q => by rw [b.cell h.s3, h.ln k q],
    Nat.lt_of_lt_of_le h.s1 b.size, Nat.lt_of_lt_of_le h.s2 b.size, Nat.lt_of_lt_of_le h.s3 b.size⟩
theorem mLyb_any (y : Nat) (w : World) (h1 : 1 ≤ y) (h2 : y ≤ 20000) :
    Calls Tryd.prog 88 #[.int .i64 y] w fun e w' => e = .returned (.int .i64 (lybN y : Nat)) ∧ w = w' := by
  go_enter Tryd.func88, Tryd.ntmps88
  go_wp2
  go_ret
  exact ⟨ret_int (by unfold lybN; omega), rfl⟩
theorem mLyb_is {x : Int} {y v : Nat} {w : World} (hx : x = (y : Int)) (h1 : 1 ≤ y) (h2 : y ≤ 20000) (hv : Box (lybN y = v)) :
    Calls Tryd.prog 88 #[.int .i64 x] w fun e w' => e = .returned (.int .i64 (v : Nat)) ∧ w = w' := by
  subst hx
  rw [← hv.out]
  exact mLyb_any y w h1 h2
theorem mLeap_any (y : Nat) (w : World) (h1 : 1 ≤ y) (h2 : y ≤ 10002) :
    Calls Tryd.prog 89 #[.int .i64 y] w fun e w' => e = .returned (.bool (leapN y)) ∧ w = w' := by
  obtain ⟨a, ha⟩ : ∃ a, lybN y = a := ⟨_, rfl⟩
  obtain ⟨b, hb⟩ : ∃ b, lybN (y + 1) = b := ⟨_, rfl⟩
  have HA := box ha
  have HB := box hb
  have HL : Box (decide ((a : Int) < (b : Int)) = leapN y) := box (by
    rcases hl : leapN y with _ | _
    · have := lyb_flat h1 hl
      exact decide_eq_false (by omega)
    · have := lyb_leap h1 hl
      exact decide_eq_true (by omega))
  clear ha hb
  go_enter Tryd.func89, Tryd.ntmps89
  go_wp2_with fail
  refine (mLyb_is (y := y + 1) (by omega) (by omega) (by omega) HB).mono ?_; rintro e w1 ⟨rfl, rfl⟩
  go_wp2_with fail
  refine (mLyb_is (y := y) rfl (by omega) (by omega) HA).mono ?_; rintro e w2 ⟨rfl, rfl⟩
  go_wp2
  go_ret
  exact ⟨ret_bool (by first | exact HL.out | (rw [← HL.out]; simp) | (rw [← HL.out]; exact decide_eq_decide.2 (by omega))), rfl⟩
theorem lenM_not2 (lp : Bool) {m : Nat} (h1 : 1 ≤ m) (h2 : m ≤ 12) (h : m ≠ 2) : lenM false m = lenM lp m := by
  have key : ∀ (b : Bool) (k : Fin 13), 1 ≤ k.1 → k.1 ≠ 2 → lenM false k.1 = lenM b k.1 := by decide
  exact key lp ⟨m, by omega⟩ h1 h
theorem mLength_any (y m : Nat) (w : World) (hW : Tabs w) (y1 : 1 ≤ y) (y2 : y ≤ 10002) (h1 : 1 ≤ m) (h2 : m ≤ 12) :
    Calls Tryd.prog 70 #[.int .i64 y, .int .i64 m] w fun e w' => e = .returned (.int .i64 (lenM (leapN y) m : Nat)) ∧ w = w' := by
  obtain ⟨k, hk⟩ : ∃ k, m = k + 1 := ⟨m - 1, by omega⟩
  have hc := hW.ln k (by omega)
  have hi : (m : Int) - 1 = (k : Int) := by omega
  have k0 : (0 : Int) ≤ (k : Int) := by omega
  have k1 : (k : Int) < 12 := by omega
  rw [← hk] at hc
  by_cases h : m = 2
  · rcases hl : leapN y with _ | _
    · have HL := box hl
      have HV : Box (lenM false m = lenM false m) := box rfl
      have hm : ((m : Int) == 2) = true := by rw [beq_iff_eq]; omega
      clear hk h hl hW
      go_enter Tryd.func70, Tryd.ntmps70
      go_wp2_with (go_at_call 89; refine (mLeap_any _ _ y1 y2).mono ?_; rintro e w' ⟨rfl, rfl⟩; rw [HL.out])
      go_ret
      exact ⟨rfl, rfl⟩
    · have HL := box hl
      have HV : Box (29 = lenM true m) := box (by rw [h]; rfl)
      have hm : ((m : Int) == 2) = true := by rw [beq_iff_eq]; omega
      clear hk h hl hW
      go_enter Tryd.func70, Tryd.ntmps70
      go_wp2_with (go_at_call 89; refine (mLeap_any _ _ y1 y2).mono ?_; rintro e w' ⟨rfl, rfl⟩; rw [HL.out])
      go_ret
      exact ⟨by rw [← HV.out]; rfl, rfl⟩
  · have HV := box (lenM_not2 (leapN y) h1 h2 h)
    have hm : ((m : Int) == 2) = false := by rw [beq_eq_false_iff_ne]; omega
    clear hk h hW
    go_enter Tryd.func70, Tryd.ntmps70
    go_wp2
    go_ret
    exact ⟨by rw [← HV.out]; rfl, rfl⟩
theorem mLength_is {y m v : Nat} {w : World} (hW : Tabs w) (y1 : 1 ≤ y) (y2 : y ≤ 10002) (h1 : 1 ≤ m) (h2 : m ≤ 12) (hv : Box (lenM (leapN y) m = v)) :
    Calls Tryd.prog 70 #[.int .i64 y, .int .i64 m] w fun e w' => e = .returned (.int .i64 (v : Nat)) ∧ w = w' := by
  rw [← hv.out]; exact mLength_any y m w hW y1 y2 h1 h2
theorem mDby_any (y : Nat) (w : World) (h1 : 1970 ≤ y) (h2 : y ≤ 10001) :
    Calls Tryd.prog 69 #[.int .i64 y] w fun e w' => e = .returned (.int .i64 (dbyN y : Nat)) ∧ w = w' := by
  obtain ⟨a, ha⟩ : ∃ a, lybN y = a := ⟨_, rfl⟩
  have HA := box ha
  have HV : Box (365 * ((y : Int) - 1970) + (a : Int) - 477 = (dbyN y : Nat)) := box (by have := lyb_ge h1; unfold dbyN; omega)
  have a1 : a ≤ 10001 := by have := lyb_le y; omega
  clear ha
  go_enter Tryd.func69, Tryd.ntmps69
  go_wp2_with fail
  refine (mLyb_is (y := y) rfl (by omega) (by omega) HA).mono ?_; rintro e w1 ⟨rfl, rfl⟩
  go_wp2_with fail
  refine (mLyb_is (x := 1970) (y := 1970) rfl (by omega) (by omega) (box lyb_1970)).mono ?_; rintro e w2 ⟨rfl, rfl⟩
  go_wp2
  go_ret
  exact ⟨ret_int (by rw [← HV.out]), rfl⟩
theorem mDby_is {x : Int} {y v : Nat} {w : World} (hx : x = (y : Int)) (h1 : 1970 ≤ y) (h2 : y ≤ 10001) (hv : Box (dbyN y = v)) :
    Calls Tryd.prog 69 #[.int .i64 x] w fun e w' => e = .returned (.int .i64 (v : Nat)) ∧ w = w' := by
  subst hx; rw [← hv.out]; exact mDby_any y w h1 h2
end
section
open Go.RowKit
theorem mExists_yes (Y M D : Nat) (w : World) (hW : Tabs w) (h : IsDay Y M D) :
    Calls Tryd.prog 68 #[.int .i64 Y, .int .i64 M, .int .i64 D] w fun e w' => e = .returned (.bool true) ∧ w = w' := by
  obtain ⟨⟨y1, y2⟩, ⟨m1, m2⟩, d1, d2⟩ := h
  obtain ⟨L, hL⟩ : ∃ L, lenM (leapN Y) M = L := ⟨_, rfl⟩
  rw [hL] at d2
  have HL := box hL
  have HT := box hW
  have i1 : ¬ (Y : Int) < 1970 := by omega
  have i2 : ¬ (9999 : Int) < (Y : Int) := by omega
  have i3 : ¬ (M : Int) < 1 := by omega
  have i4 : ¬ (12 : Int) < (M : Int) := by omega
  have i5 : (1 : Int) ≤ (D : Int) := by omega
  have i6 : (D : Int) ≤ (L : Int) := by omega
  clear hL hW
  go_enter Tryd.func68, Tryd.ntmps68
  go_wp2_with (go_at_call 70; refine (mLength_is HT.out (by omega) (by omega) m1 m2 HL).mono ?_; rintro e w' ⟨rfl, rfl⟩)
  go_ret
  exact ⟨ret_bool (by first | rfl | exact decide_eq_true (by omega)), rfl⟩
theorem mExists_no (y m d : Int) (w : World) (hW : Tabs w) (hN : ¬ ((0 ≤ y ∧ 0 ≤ m ∧ 0 ≤ d) ∧ IsDay y.toNat m.toNat d.toNat)) :
    Calls Tryd.prog 68 #[.int .i64 y, .int .i64 m, .int .i64 d] w fun e w' => e = .returned (.bool false) ∧ w = w' := by
  have HT := box hW
  have HN := box hN
  clear hW hN
  by_cases c1 : y < 1970
  · go_enter Tryd.func68, Tryd.ntmps68
    go_wp2
    go_ret
    exact ⟨rfl, rfl⟩
  by_cases c2 : 9999 < y
  · go_enter Tryd.func68, Tryd.ntmps68
    go_wp2
    go_ret
    exact ⟨rfl, rfl⟩
  by_cases c3 : m < 1
  · go_enter Tryd.func68, Tryd.ntmps68
    go_wp2
    go_ret
    exact ⟨rfl, rfl⟩
  by_cases c4 : 12 < m
  · go_enter Tryd.func68, Tryd.ntmps68
    go_wp2
    go_ret
    exact ⟨rfl, rfl⟩
  obtain ⟨Y, rfl⟩ : ∃ Y : Nat, y = Y := ⟨y.toNat, by omega⟩
  obtain ⟨M, rfl⟩ : ∃ M : Nat, m = M := ⟨m.toNat, by omega⟩
  by_cases c5 : d < 1
  · have c6 : ¬ (1 : Int) ≤ d := by omega
    go_enter Tryd.func68, Tryd.ntmps68
    go_wp2
    go_ret
    exact ⟨ret_bool (by first | rfl | exact decide_eq_false (by omega)), rfl⟩
  obtain ⟨D, rfl⟩ : ∃ D : Nat, d = D := ⟨d.toNat, by omega⟩
  have hL : lenM (leapN Y) M < D := by
    refine Nat.lt_of_not_le fun q => HN.out ⟨⟨by omega, by omega, by omega⟩, ⟨by omega, by omega⟩, ⟨by omega, by omega⟩, by omega, q⟩
  obtain ⟨L, hl⟩ : ∃ L, lenM (leapN Y) M = L := ⟨_, rfl⟩
  rw [hl] at hL
  have HL := box hl
  have c6 : (1 : Int) ≤ (D : Int) := by omega
  have c7 : ¬ (D : Int) ≤ (L : Int) := by omega
  clear hl HN
  go_enter Tryd.func68, Tryd.ntmps68
  go_wp2_with (go_at_call 70; refine (mLength_is HT.out (by omega) (by omega) (by omega) (by omega) HL).mono ?_; rintro e w' ⟨rfl, rfl⟩)
  go_ret
  exact ⟨ret_bool (by first | rfl | exact decide_eq_false (by omega)), rfl⟩
theorem mDays_in (Y M D : Nat) (w : World) (hW : Tabs w) (h : IsDay Y M D) :
    Calls Tryd.prog 48 #[.int .i64 Y, .int .i64 M, .int .i64 D] w fun e w' => e = .returned (.int .i64 (dayN Y M D : Nat)) ∧ w = w' := by
  have HI := box h
  obtain ⟨⟨y1, y2⟩, ⟨m1, m2⟩, d1, d2⟩ := h
  have d3 := (len_le (leapN Y) m1 m2).1
  obtain ⟨B, hB⟩ : ∃ B, dbyN Y = B := ⟨_, rfl⟩
  have hb := dby_le y1 (by omega)
  rw [hB] at hb
  have HB := box hB
  have HT := box hW
  have HV : Box ((B : Int) + D - 1 + cumM (leapN Y) M = (dayN Y M D : Nat)) := box (by unfold dayN; omega)
  have hd0 : (B : Int) + (D : Int) - 1 = ((B + (D - 1) : Nat) : Int) := by omega
  have hd4 : D ≤ 31 := by omega
  clear hB hW d2 d3
  go_enter Tryd.func48, Tryd.ntmps48
  go_wp2_with fail
  refine (mExists_yes _ _ _ _ HT.out HI.out).mono ?_; rintro e w1 ⟨rfl, rfl⟩
  go_wp2_with fail
  refine (mDby_is rfl y1 (by omega) HB).mono ?_; rintro e w2 ⟨rfl, rfl⟩
  go_wp2
  go_loop [7, 8] (fun n i => ∃ j : Nat, 1 ≤ j ∧ j ≤ M ∧ i = .int .i64 j ∧ n = .int .i64 (B + (D - 1) + cumM (leapN Y) j : Nat)) (fun _ i => M - (intOf i).toNat)
  case atStart => exact ⟨1, by omega, m1, rfl, by rw [show cumM (leapN Y) 1 = 0 from rfl]; rfl⟩
  case round =>
    obtain ⟨j, j1, j2, rfl, rfl⟩ := hrel
    have j3 := cum_le (leapN Y) (m := j) (by omega)
    by_cases hjt : j < M
    · have hj : (j : Int) < (M : Int) := by omega
      have hn := cum_next (leapN Y) j1
      obtain ⟨q, hq⟩ : ∃ q, lenM (leapN Y) j = q := ⟨_, rfl⟩
      have q2 := (len_le (leapN Y) j1 (by omega : j ≤ 12)).1
      rw [hq] at hn q2
      have HQ := box hq
      have HN : Box (((B + (D - 1) + cumM (leapN Y) j : Nat) : Int) + (q : Int) = ((B + (D - 1) + cumM (leapN Y) (j + 1) : Nat) : Int)) := box (by rw [hn]; omega)
      clear hq hn
      go_wp2_with (go_at_call 70; refine (mLength_is HT.out (by omega) (by omega) j1 (by omega) HQ).mono ?_; rintro e w' ⟨rfl, rfl⟩)
      go_round
      case rel => exact ⟨j + 1, by omega, by omega, by go_num, by rw [← HN.out]; simp only [Int.natCast_add]⟩
      case measure => simp [intOf]; omega
    · have hj : ¬ (j : Int) < (M : Int) := by omega
      obtain rfl : j = M := by omega
      go_wp2
      go_ret
      exact ⟨ret_int (by have := HV.out; push_cast at this ⊢; omega), rfl⟩
theorem mDays_any (y m d : Int) (w : World) (hW : Tabs w) :
    Calls Tryd.prog 48 #[.int .i64 y, .int .i64 m, .int .i64 d] w fun e w' => e = .returned (.int .i64 (daysV y m d)) ∧ w = w' := by
  rcases days_cases y m d with ⟨a, b, c, rfl, rfl, rfl, hD, hV⟩ | ⟨hN, hV⟩
  · rw [hV]; exact mDays_in a b c w hW hD
  · rw [hV]
    have HT := box hW
    have HN := box hN
    clear hW hN hV
    go_enter Tryd.func48, Tryd.ntmps48
    go_wp2_with fail
    refine (mExists_no _ _ _ _ HT.out HN.out).mono ?_; rintro e w1 ⟨rfl, rfl⟩
    go_wp2
    go_ret
    exact ⟨rfl, rfl⟩
theorem mDays_is {y m d v : Int} {w : World} (hW : Tabs w) (h : Box (daysV y m d = v)) :
    Calls Tryd.prog 48 #[.int .i64 y, .int .i64 m, .int .i64 d] w fun e w' => e = .returned (.int .i64 v) ∧ w = w' :=
  (mDays_any y m d w hW).mono fun e w' ⟨h1, h2⟩ => ⟨by rw [h1, h.out], h2⟩
theorem mCal_any (n y m d : Nat) (w : World) (hW : Tabs w) (hc : IsCal n y m d) :
    Calls Tryd.prog 71 #[.int .i64 n] w fun e w' => e = .returned (.tuple #[.int .i64 y, .int .i64 m, .int .i64 d]) ∧ w = w' := by
  have hn := cal_lt hc
  have HC := box hc
  have HT := box hW
  obtain ⟨⟨y1, y2⟩, ⟨m1, m2⟩, _⟩ := hc.1
  obtain ⟨q, hq⟩ : ∃ q, n / 366 = q := ⟨_, rfl⟩
  have hq1 : (n : Int) / 366 = (q : Int) := by omega
  have q1 : 1970 + q ≤ y := by
    have h1 := dby_first n
    rw [hq] at h1
    have h2 := cal_year hc
    refine Nat.le_of_not_lt fun h => ?_
    have := dby_mono (by omega) (by omega : y + 1 ≤ 1970 + q)
    omega
  clear hc hW hq
  go_enter Tryd.func71, Tryd.ntmps71
  go_wp2
  go_loop [5] (fun i => ∃ k : Nat, 1970 ≤ k ∧ k ≤ y ∧ i = .int .i64 k) (fun i => y - (intOf i).toNat)
  case atStart => exact ⟨1970 + q, by omega, q1, by go_num⟩
  case round =>
    obtain ⟨k, k1, k2, rfl⟩ := hrel
    obtain ⟨X, hX⟩ : ∃ X, dbyN (k + 1) = X := ⟨_, rfl⟩
    have HX := box hX
    have hx := dby_le (y := k + 1) (by omega) (by omega)
    have hlt := year_lt HC.out k1
    rw [hX] at hx hlt
    by_cases h : k < y
    · have hg : (X : Int) ≤ (n : Int) := by have := hlt.1 h; omega
      clear hX hlt
      go_wp2_with fail
      refine (mDby_is (y := k + 1) (by omega) (by omega) (by omega) HX).mono ?_; rintro e w1 ⟨rfl, rfl⟩
      go_wp2
      go_round
      case rel => exact ⟨k + 1, by omega, by omega, by go_num⟩
      case measure => simp [intOf]; omega
    · have hg : ¬ (X : Int) ≤ (n : Int) := by
        have := mt hlt.2 h
        omega
      obtain rfl : k = y := by omega
      obtain ⟨B, hB⟩ : ∃ B, dbyN k = B := ⟨_, rfl⟩
      have HB := box hB
      have hBn := (cal_year HC.out).1
      rw [hB] at hBn
      clear hX hlt hB
      go_wp2_with fail
      refine (mDby_is (y := k + 1) (by omega) (by omega) (by omega) HX).mono ?_; rintro e w1 ⟨rfl, rfl⟩
      go_wp2_with fail
      refine (mDby_is (y := k) rfl (by omega) (by omega) HB).mono ?_; rintro e w2 ⟨rfl, rfl⟩
      go_wp2
      go_loop [6, 7] (fun i r => ∃ j u : Nat, 1 ≤ j ∧ j ≤ m ∧ i = .int .i64 j ∧ r = .int .i64 u ∧ B + cumM (leapN k) j + u = n + 1) (fun i _ => m - (intOf i).toNat)
      case atStart => exact ⟨1, n - B + 1, by omega, m1, rfl, by go_num, by rw [show cumM (leapN k) 1 = 0 from rfl]; omega⟩
      case round =>
        obtain ⟨j, u, j1, j2, rfl, rfl, hu⟩ := hrel
        have hl := month_lt HC.out j1
        have hnx := cum_next (leapN k) j1
        obtain ⟨L, hL⟩ : ∃ L, lenM (leapN k) j = L := ⟨_, rfl⟩
        have HL := box hL
        rw [HB.out] at hl
        rw [hL] at hnx
        rw [hnx] at hl
        have HNX := box hnx
        by_cases hj : j < m
        · have g1 : (L : Int) < (u : Int) := by have := hl.1 hj; omega
          have HU : Box (B + cumM (leapN k) (j + 1) + (u - L) = n + 1) := box (by rw [hnx]; omega)
          have hu2 : (u : Int) - (L : Int) = ((u - L : Nat) : Int) := by omega
          have hu3 : u - L ≤ 3000000 := by omega
          clear hl hnx hL hu
          go_wp2_with fail
          refine (mLength_is HT.out (by omega) (by omega) j1 (by omega) HL).mono ?_; rintro e w3 ⟨rfl, rfl⟩
          go_wp2_with fail
          refine (mLength_is HT.out (by omega) (by omega) j1 (by omega) HL).mono ?_; rintro e w4 ⟨rfl, rfl⟩
          go_wp2
          go_round
          case rel => exact ⟨j + 1, u - L, by omega, by omega, by go_num, by go_num, HU.out⟩
          case measure => simp [intOf]; omega
        · have g1 : ¬ (L : Int) < (u : Int) := by have := mt hl.2 hj; omega
          obtain rfl : j = m := by omega
          have hr := cal_range HC.out
          have HD : Box (d = u) := box (by rw [HB.out] at hr; omega)
          clear hl hnx hL hu hr
          go_wp2_with fail
          refine (mLength_is HT.out (by omega) (by omega) j1 (by omega) HL).mono ?_; rintro e w3 ⟨rfl, rfl⟩
          go_wp2
          go_ret3
          exact ⟨by rw [HD.out]; rfl, rfl⟩
end
section
open Go.RowKit
def InI64 (n : Int) : Prop := -9223372036854775808 ≤ n ∧ n ≤ 9223372036854775807
theorem wrapu_pos {n : Int} (h : InI64 n) (h0 : 0 ≤ n) : IntKind.u64.wrap n = (n.natAbs : Int) := by
  unfold InI64 at h; rw [IntKind.wrap_u64]; omega
theorem wrapu_neg {n : Int} (h : InI64 n) (h0 : n < 0) : IntKind.u64.wrap (-IntKind.u64.wrap n) = (n.natAbs : Int) := by
  unfold InI64 at h; rw [IntKind.wrap_u64, IntKind.wrap_u64]; omega
theorem wrapu_div {N q : Nat} {acc : List UInt8} (h : DecAt N q acc) : IntKind.u64.wrap ((q : Int) / 10) = (q : Int) / 10 := by
  have h2 := h.2.1
  have h3 : q ≤ q * 10 ^ acc.length := Nat.le_mul_of_pos_right _ (Nat.pow_pos (by omega))
  rw [IntKind.wrap_u64]; omega
theorem slice_buf (g p : Nat) (x : Int) (w : World) (hx : x = (p : Int)) (h2 : p < 20) :
    (Instr.sliceAt 94 (.pointer (some ⟨g, 0, none⟩)) (some (.int .i64 x)) none none).run Tryd.prog w = .ok (.slice (some ⟨g, p, none⟩) (20 - p) (20 - p)) w := by
  have e : Tryd.prog.arrayLen 94 = 20 := by kernel_rfl
  have e2 : Tryd.prog.elem 94 = 5 := by kernel_rfl
  have hs : (sizeOf 5).run Tryd.prog w = .ok 1 w := by kernel_rfl
  have h := run_sliceAt_array_l (P := Tryd.prog) w 94 ⟨g, 0, none⟩ (by kernel_rfl) .i64 x (by omega) (by rw [e]; omega)
  rw [h, e, e2, hs]
  have e3 : x.toNat = p := by omega
  simp only [Result.andThen, slicedAt, e3]
  rw [if_neg (by omega)]
  have e4 : (⟨g, 0, none⟩ : Addr).add (p * 1) = ⟨g, p, none⟩ := by unfold Addr.add; split <;> simp_all
  rw [e4]
theorem buf_start (w : World) : Bys (w.alloc (.cells (Array.replicate 20 (.int .u8 0)) 94)) w.heap.size (zbuf 20 []) := by
  refine ⟨by simp, fun j hj => ?_⟩
  simp only [zbuf, List.append_nil, List.length_replicate] at hj ⊢
  refine ⟨?_, by go_simp⟩
  rw [World.cell?_alloc_at (hn := rfl), Array.getElem?_replicate, if_pos hj]
  rw [getD_get _ _ (by simpa using hj), List.getElem_replicate]; rfl
/-- 'string(buffer[p:])' -/
theorem str_buf (g p : Nat) (acc : List UInt8) (w : World) (h : Bys w g (zbuf p acc)) (hp : acc.length + p = 20) :
    (convert 89 9 (.slice (some ⟨g, p, none⟩) (20 - p) (20 - p))).run Tryd.prog w = .ok (.string ⟨acc.toArray⟩) w := by
  have e : 20 - p = acc.length := by omega
  rw [e]
  refine run_convert_bytes_back w 89 9 5 ⟨g, p, none⟩ acc.length acc Tryd.underlying89 Tryd.underlying5 Tryd.underlying9 fun j hj => ?_
  have hc := h.cell (j := p + j) (by simp [zbuf]; omega)
  have ea : (⟨g, p, none⟩ : Addr).add j = ⟨g, p + j, none⟩ := by unfold Addr.add; split <;> simp_all
  rw [ea, hc]
  have : (zbuf p acc).getD (p + j) 0 = acc[j] := by
    simp only [zbuf, List.getD_eq_getElem?_getD]
    rw [List.getElem?_append_right (by simp)]; simp [hj]
  rw [this]; rfl
theorem Decimal_pos (n : Int) (w : World) (h0 : 0 ≤ n) (h1 : InI64 n) :
    Calls Tryd.prog 73 #[.int .i64 n] w fun e w' => e = .returned (.string ⟨(decL n).toArray⟩) ∧ Below w.heap.size w w' := by
  have H1 := Lib.hid h1
  clear h1
  go_enter Tryd.func73, Tryd.ntmps73
  go_wp2
  go_loopw [3, 5] (fun m i wr => ∃ (q p : Nat) (acc : List UInt8), m = .int .u64 q ∧ i = .int .i64 p ∧ acc.length + p = 20 ∧ Bys wr w.heap.size (zbuf p acc) ∧ DecAt n.natAbs q acc ∧ Below w.heap.size w wr) (fun _ i _ => (intOf i).toNat)
  case atStart =>
    refine ⟨_, 20, [], by rw [wrapu_pos H1.out h0], rfl, rfl, ?_, DecAt.start (by have := H1.out; unfold InI64 at this; omega), (Below.refl _ _).alloc (Nat.le_refl _) _⟩
    exact buf_start w
  case round =>
    obtain ⟨q, p, acc, rfl, rfl, hp, hB, hD, hbel⟩ := hrel
    have hl := hD.len
    have hp1 : 2 ≤ p := by omega
    have hp2 : p ≤ 20 := by omega
    have HP := Lib.hid hp
    obtain ⟨cv, hc⟩ : ∃ cv, wr.cell? ⟨w.heap.size, p - 1, none⟩ = some cv := ⟨_, hB.cell (by simp [zbuf]; omega)⟩
    have hf : wr.frozen? ⟨w.heap.size, p - 1, none⟩ = false := hB.frozen (by simp [zbuf]; omega)
    have hset := hB.set (k := p - 1) (by simp [zbuf]; omega) (digB q)
    rw [zbuf_set _ (by omega), bv, dig_toNat] at hset
    have HS := Lib.hid hset
    have hbs := Lib.hid (hbel.setCell (p := ⟨w.heap.size, p - 1, none⟩) (Nat.le_refl _) (.int .u8 (48 + (q : Int) % 10)))
    have hw := wrapu_div hD
    have hsl := fun wx => slice_buf w.heap.size (p - 1) ((p : Int) - 1) wx (by omega) (by omega)
    clear hp hset
    by_cases hm : q / 10 = 0
    · have hst := str_buf _ _ _ _ HS.out (by have := HP.out; simp; omega)
      have hm' : ((q : Int) / 10 == 0) = true := by simp; omega
      have HF := Lib.hid (hD.fin hm)
      clear hm
      go_wp2
      go_ret
      exact ⟨by rw [decL, if_neg (by omega), HF.out]; rfl, hbs.out⟩
    · have hm' : ((q : Int) / 10 == 0) = false := by simp; omega
      have HF := Lib.hid (hD.step hm)
      clear hm
      go_wp2
      go_roundw
      case rel => exact ⟨q / 10, p - 1, _, by go_num, by go_num, by have := HP.out; simp; omega, HS.out, HF.out, hbs.out⟩
      case measure => simp [intOf]; omega
theorem Decimal_neg (n : Int) (w : World) (h0 : n < 0) (h1 : InI64 n) :
    Calls Tryd.prog 73 #[.int .i64 n] w fun e w' => e = .returned (.string ⟨(decL n).toArray⟩) ∧ Below w.heap.size w w' := by
  have H1 := Lib.hid h1
  clear h1
  go_enter Tryd.func73, Tryd.ntmps73
  go_wp2
  go_loopw [3, 5] (fun m i wr => ∃ (q p : Nat) (acc : List UInt8), m = .int .u64 q ∧ i = .int .i64 p ∧ acc.length + p = 20 ∧ Bys wr w.heap.size (zbuf p acc) ∧ DecAt n.natAbs q acc ∧ Below w.heap.size w wr) (fun _ i _ => (intOf i).toNat)
  case atStart =>
    refine ⟨_, 20, [], by rw [wrapu_neg H1.out h0], rfl, rfl, ?_, DecAt.start (by have := H1.out; unfold InI64 at this; omega), (Below.refl _ _).alloc (Nat.le_refl _) _⟩
    exact buf_start w
  case round =>
    obtain ⟨q, p, acc, rfl, rfl, hp, hB, hD, hbel⟩ := hrel
    have hl := hD.len
    have hp1 : 2 ≤ p := by omega
    have hp2 : p ≤ 20 := by omega
    have HP := Lib.hid hp
    obtain ⟨cv, hc⟩ : ∃ cv, wr.cell? ⟨w.heap.size, p - 1, none⟩ = some cv := ⟨_, hB.cell (by simp [zbuf]; omega)⟩
    have hf : wr.frozen? ⟨w.heap.size, p - 1, none⟩ = false := hB.frozen (by simp [zbuf]; omega)
    have hset := hB.set (k := p - 1) (by simp [zbuf]; omega) (digB q)
    rw [zbuf_set _ (by omega), bv, dig_toNat] at hset
    have HS := Lib.hid hset
    have hbs := Lib.hid (hbel.setCell (p := ⟨w.heap.size, p - 1, none⟩) (Nat.le_refl _) (.int .u8 (48 + (q : Int) % 10)))
    have hw := wrapu_div hD
    have hsl := fun wx => slice_buf w.heap.size (p - 1) ((p : Int) - 1) wx (by omega) (by omega)
    clear hp hset
    by_cases hm : q / 10 = 0
    · obtain ⟨cv2, hc2⟩ : ∃ cv, (wr.setCell ⟨w.heap.size, p - 1, none⟩ (.int .u8 (48 + (q : Int) % 10))).cell? ⟨w.heap.size, p - 1 - 1, none⟩ = some cv := ⟨_, HS.out.cell (by simp [zbuf]; omega)⟩
      have hf2 : wr.frozen? ⟨w.heap.size, p - 1 - 1, none⟩ = false := hB.frozen (by simp [zbuf]; omega)
      have hset2 := HS.out.set (k := p - 1 - 1) (by simp [zbuf]; omega) 45
      rw [zbuf_set _ (by omega), show bv 45 = .int .u8 45 from rfl] at hset2
      have hst := str_buf _ _ _ _ hset2 (by have := HP.out; simp; omega)
      have hbs2 := Lib.hid (hbs.out.setCell (p := ⟨w.heap.size, p - 1 - 1, none⟩) (Nat.le_refl _) (.int .u8 45))
      have hsl := fun wx => slice_buf w.heap.size (p - 1 - 1) ((p : Int) - 1 - 1) wx (by omega) (by omega)
      clear hset2
      have hm' : ((q : Int) / 10 == 0) = true := by simp; omega
      have HF := Lib.hid (hD.fin hm)
      clear hm
      go_wp2
      go_ret
      exact ⟨by rw [decL, if_pos (by omega), HF.out]; rfl, hbs2.out⟩
    · have hm' : ((q : Int) / 10 == 0) = false := by simp; omega
      have HF := Lib.hid (hD.step hm)
      clear hm
      go_wp2
      go_roundw
      case rel => exact ⟨q / 10, p - 1, _, by go_num, by go_num, by have := HP.out; simp; omega, HS.out, HF.out, hbs.out⟩
      case measure => simp [intOf]; omega
theorem Decimal_any (n : Int) (w : World) (h1 : InI64 n) :
    Calls Tryd.prog 73 #[.int .i64 n] w fun e w' => e = .returned (.string ⟨(decL n).toArray⟩) ∧ Below w.heap.size w w' := by
  by_cases h : 0 ≤ n
  · exact Decimal_pos n w h h1
  · exact Decimal_neg n w (by omega) h1
end
section
open Go.RowKit
theorem add20 {a b z : List UInt8} (h : Box (a ++ b = z)) (hz : z.length ≤ 1000) (w : World) : (Op.stringOp .add (bs a) (bs b)).run Tryd.prog w = .ok (.string (bs z)) w := by
  have := congrArg List.length h.out
  rw [List.length_append] at this
  rw [run_string_add_sum w _ _ (by rw [bs_size, bs_size]; omega), ← h.out]; rfl
theorem mNumber_is {s : ByteArray} {v : Int} {w : World} (hs : s.size ≤ 1000) (hv : Box ((numV (numL s.data.toList)).1 = v)) :
    Calls Tryd.prog 49 #[.string s] w fun e w' => e = .returned (.int .i64 v) ∧ w = w' := by
  have HX : Box (s.size ≤ maxLen) := box (by unfold maxLen; omega)
  obtain ⟨q, hq⟩ : ∃ q, numT (numL s.data.toList) = .tuple #[.int .i64 v, .bool q] := ⟨_, by unfold numT; rw [hv.out]⟩
  have HQ := box hq
  clear hq hs
  go_enter Tryd.func49, Tryd.ntmps49
  go_wp2_with fail
  refine (Number_any _ _ HX.out).mono ?_; rintro e w1 ⟨rfl, rfl⟩; rw [HQ.out]
  go_wp2
  go_ret
  exact ⟨rfl, rfl⟩
theorem mMonth_any (s : ByteArray) (w : World) (hW : Tabs w) :
    Calls Tryd.prog 50 #[.string s] w fun e w' => e = .returned (.int .i64 (monI s.data.toList : Nat)) ∧ w = w' := by
  have HT := box hW
  clear hW
  go_enter Tryd.func50, Tryd.ntmps50
  go_wp2
  go_loop [3, 4] (fun _ i => ∃ k : Nat, k ≤ 12 ∧ i = .int .i64 k ∧ Box (∀ j, j < k → s.data.toList ≠ monL (j + 1))) (fun _ i => 12 - (intOf i).toNat)
  case atStart => exact ⟨0, by omega, rfl, box (fun j h => absurd h (by omega))⟩
  case round =>
    obtain ⟨k, k1, rfl, HK⟩ := hrel
    by_cases h : k < 12
    · have hk0 : (0 : Int) ≤ (k : Int) := by omega
      have hk1 : (k : Int) < 12 := by omega
      have hc := HT.out.mo k h
      by_cases e : s.data.toList = monL (k + 1)
      · have he : ((bs (monL (k + 1))).toList == s.toList) = true := by rw [toList_bs, toList_data, beq_iff_eq]; exact e.symm
        have HV : Box (monI s.data.toList = k + 1) := box (by rw [e]; exact mon_back (by omega) (by omega))
        clear e
        go_wp2
        go_ret
        exact ⟨by rw [HV.out]; simp only [Int.natCast_add]; rfl, rfl⟩
      · have he : ((bs (monL (k + 1))).toList == s.toList) = false := by rw [toList_bs, toList_data, beq_eq_false_iff_ne]; exact fun q => e q.symm
        have HN : Box (∀ j, j < k + 1 → s.data.toList ≠ monL (j + 1)) := box (fun j hj => by
          by_cases q : j = k
          · subst q; exact e
          · exact HK.out j (by omega))
        clear e
        go_wp2
        go_round
        case rel => exact ⟨k + 1, by omega, by go_num, HN⟩
        case measure => simp [intOf]; omega
    · have hk1 : ¬ (k : Int) < 12 := by omega
      have HV : Box (monI s.data.toList = 0) := box (by
        rcases mon_cases s.data.toList with ⟨m, m1, m2, m3, _⟩ | ⟨_, h4⟩
        · exfalso
          have := HK.out (m - 1) (by omega)
          rw [show m - 1 + 1 = m from by omega] at this
          exact this m3
        · exact h4)
      go_wp2
      go_ret
      exact ⟨by rw [HV.out]; rfl, rfl⟩
theorem Dec20_is {n : Int} {x : ByteArray} {w : World} (h1 : InI64 n) (h : Box (bs (decL n) = x)) :
    Calls Tryd.prog 73 #[.int .i64 n] w fun e w' => e = .returned (.string x) ∧ Below w.heap.size w w' :=
  (Decimal_any n w h1).mono fun e w' ⟨h1, h2⟩ => ⟨by rw [h1, ← h.out]; rfl, h2⟩
theorem mTwo_any (n : Nat) (w : World) (h : n < 100) :
    Calls Tryd.prog 72 #[.int .i64 n] w fun e w' => e = .returned (.string (bs (twoL n))) ∧ Below w.heap.size w w' := by
  obtain ⟨a, ha⟩ : ∃ a, n / 10 = a := ⟨_, rfl⟩
  obtain ⟨b, hb⟩ : ∃ b, n % 10 = b := ⟨_, rfl⟩
  have h1 : (n : Int) / 10 = (a : Int) := by omega
  have h2 : (n : Int) % 10 = (b : Int) := by omega
  have HA : Box (bs (decL (a : Int)) = bs [digB a]) := box (by rw [dec_one (by omega)])
  have HB : Box (bs (decL (b : Int)) = bs [digB b]) := box (by rw [dec_one (by omega)])
  have HV : Box (bs (twoL n) = bs [digB a, digB b]) := box (by unfold twoL; rw [ha, digB_mod n b (by omega)])
  have r1 : ∀ w, (Op.stringOp .add (bs [digB a]) (bs [digB b])).run Tryd.prog w = .ok (.string (bs [digB a, digB b])) w := add20 (box rfl) (by show 2 ≤ 1000; omega)
  have a1 : a < 10 := by omega
  have b1 : b < 10 := by omega
  clear ha hb
  go_enter Tryd.func72, Tryd.ntmps72
  go_wp2_with fail
  refine (Dec20_is ⟨by omega, by omega⟩ HA).mono ?_; rintro e w1 ⟨rfl, hb1⟩
  have B1 := box hb1
  clear hb1
  go_wp2_with fail
  refine (Dec20_is ⟨by omega, by omega⟩ HB).mono ?_; rintro e w2 ⟨rfl, hb2⟩
  have B2 := box (B1.out.trans (hb2.mono B1.out.size))
  clear hb2
  go_wp2
  go_ret
  exact ⟨by rw [HV.out]; rfl, B2.out⟩
theorem mClock_any (s : Nat) (w : World) (h : s < 86400) :
    Calls Tryd.prog 74 #[.int .i64 s] w fun e w' => e = .returned (.string (bs (clkL s))) ∧ Below w.heap.size w w' := by
  obtain ⟨H, hH⟩ : ∃ H, s / 3600 = H := ⟨_, rfl⟩
  obtain ⟨M, hM⟩ : ∃ M, s / 60 % 60 = M := ⟨_, rfl⟩
  obtain ⟨S, hS⟩ : ∃ S, s % 60 = S := ⟨_, rfl⟩
  have h1 : (s : Int) / 3600 = (H : Int) := by omega
  have h2 : (s : Int) % 3600 / 60 = (M : Int) := by omega
  have h3 : (s : Int) % 60 = (S : Int) := by omega
  have l1 : H < 100 := by omega
  have l2 : M < 100 := by omega
  have l3 : S < 100 := by omega
  have HV : Box (bs (clkL s) = bs (twoL H ++ [58] ++ twoL M ++ [58] ++ twoL S)) := box (by unfold clkL; rw [hH, hM, hS])
  have r1 : ∀ w, (Op.stringOp .add (bs (twoL H)) ⟨#[58]⟩).run Tryd.prog w = .ok (.string (bs (twoL H ++ [58]))) w := add20 (box rfl) (by show 3 ≤ 1000; omega)
  have r2 : ∀ w, (Op.stringOp .add (bs (twoL H ++ [58])) (bs (twoL M))).run Tryd.prog w = .ok (.string (bs (twoL H ++ [58] ++ twoL M))) w := add20 (box rfl) (by show 5 ≤ 1000; omega)
  have r3 : ∀ w, (Op.stringOp .add (bs (twoL H ++ [58] ++ twoL M)) ⟨#[58]⟩).run Tryd.prog w = .ok (.string (bs (twoL H ++ [58] ++ twoL M ++ [58]))) w := add20 (box rfl) (by show 6 ≤ 1000; omega)
  have r4 : ∀ w, (Op.stringOp .add (bs (twoL H ++ [58] ++ twoL M ++ [58])) (bs (twoL S))).run Tryd.prog w = .ok (.string (bs (twoL H ++ [58] ++ twoL M ++ [58] ++ twoL S))) w := add20 (box rfl) (by show 8 ≤ 1000; omega)
  clear hH hM hS
  go_enter Tryd.func74, Tryd.ntmps74
  go_wp2_with fail
  refine (mTwo_any H _ l1).mono ?_; rintro e w1 ⟨rfl, hb1⟩
  have B1 := box hb1
  clear hb1
  go_wp2_with fail
  refine (mTwo_any M _ l2).mono ?_; rintro e w2 ⟨rfl, hb2⟩
  have B2 := box (B1.out.trans (hb2.mono B1.out.size))
  clear hb2
  go_wp2_with fail
  refine (mTwo_any S _ l3).mono ?_; rintro e w3 ⟨rfl, hb3⟩
  have B3 := box (B2.out.trans (hb3.mono B2.out.size))
  clear hb3
  go_wp2
  go_ret
  exact ⟨by rw [HV.out]; rfl, B3.out⟩
end
section
open Go.RowKit
set_option maxHeartbeats 4000000 in
theorem mFmt_in (T n s y m d : Nat) (w : World) (hT : T = n * 86400 + s) (hs : s < 86400) (hc : IsCal n y m d) (hW : Tabs w) :
    Calls Tryd.prog 51 #[.int .i64 T] w fun e w' => e = .returned (.string (bs (dateL y m d n s))) ∧ Below w.heap.size w w' := by
  have hn := cal_lt hc
  have HC := box hc
  have HT := box hW
  obtain ⟨⟨y1, y2⟩, ⟨m1, m2⟩, d1, d2⟩ := hc.1
  have d3 : d < 100 := by have := (len_le (leapN y) m1 m2).1; omega
  have i1 : ¬ (T : Int) < 0 := by omega
  have i2 : ¬ (253402300799 : Int) < (T : Int) := by omega
  have hq : (T : Int) / 86400 = (n : Int) := by omega
  have hm : (T : Int) % 86400 = (s : Int) := by omega
  obtain ⟨a, ha⟩ : ∃ a, n % 7 = a := ⟨_, rfl⟩
  have ha7 : a < 7 := by omega
  obtain ⟨K, hK⟩ : ∃ K, m - 1 = K := ⟨_, rfl⟩
  have CW := box (hW.wk a ha7)
  have CM : Box (w.cell? ⟨0, K, none⟩ = some (.string (bs (monL m)))) := box (by have := hW.mo K (by omega); rw [show K + 1 = m from by omega] at this; exact this)
  have DY4 : Box (bs (decL (y : Int)) = bs (fourL y)) := box (by rw [dec_fourL (by omega) (by omega)])
  obtain ⟨z1, h1⟩ : ∃ z, wkL a ++ [44, 32] = z := ⟨_, rfl⟩
  obtain ⟨z2, h2⟩ : ∃ z, z1 ++ twoL d = z := ⟨_, rfl⟩
  obtain ⟨z3, h3⟩ : ∃ z, z2 ++ [32] = z := ⟨_, rfl⟩
  obtain ⟨z4, h4⟩ : ∃ z, z3 ++ monL m = z := ⟨_, rfl⟩
  obtain ⟨z5, h5⟩ : ∃ z, z4 ++ [32] = z := ⟨_, rfl⟩
  obtain ⟨z6, h6⟩ : ∃ z, z5 ++ fourL y = z := ⟨_, rfl⟩
  obtain ⟨z7, h7⟩ : ∃ z, z6 ++ [32] = z := ⟨_, rfl⟩
  obtain ⟨z8, h8⟩ : ∃ z, z7 ++ clkL s = z := ⟨_, rfl⟩
  obtain ⟨z9, h9⟩ : ∃ z, z8 ++ [32, 71, 77, 84] = z := ⟨_, rfl⟩
  have HZ : Box (bs z9 = bs (dateL y m d n s)) := box (by
    rw [← h9, ← h8, ← h7, ← h6, ← h5, ← h4, ← h3, ← h2, ← h1]
    unfold dateL
    rw [ha])
  have hz : z9.length = 29 := by rw [bs_inj HZ.out]; exact date_len m1 m2
  have l8 : z8.length ≤ 1000 := by rw [← h9, List.length_append] at hz; omega
  have l7 : z7.length ≤ 1000 := by rw [← h8, List.length_append] at l8; omega
  have l6 : z6.length ≤ 1000 := by rw [← h7, List.length_append] at l7; omega
  have l5 : z5.length ≤ 1000 := by rw [← h6, List.length_append] at l6; omega
  have l4 : z4.length ≤ 1000 := by rw [← h5, List.length_append] at l5; omega
  have l3 : z3.length ≤ 1000 := by rw [← h4, List.length_append] at l4; omega
  have l2 : z2.length ≤ 1000 := by rw [← h3, List.length_append] at l3; omega
  have l1 : z1.length ≤ 1000 := by rw [← h2, List.length_append] at l2; omega
  have R1 : Box (∀ w, (Op.stringOp .add (bs (wkL a)) ⟨#[44, 32]⟩).run Tryd.prog w = .ok (.string (bs z1)) w) := box (add20 (box h1) l1)
  have R2 : Box (∀ w, (Op.stringOp .add (bs z1) (bs (twoL d))).run Tryd.prog w = .ok (.string (bs z2)) w) := box (add20 (box h2) l2)
  have R3 : Box (∀ w, (Op.stringOp .add (bs z2) ⟨#[32]⟩).run Tryd.prog w = .ok (.string (bs z3)) w) := box (add20 (box h3) l3)
  have R4 : Box (∀ w, (Op.stringOp .add (bs z3) (bs (monL m))).run Tryd.prog w = .ok (.string (bs z4)) w) := box (add20 (box h4) l4)
  have R5 : Box (∀ w, (Op.stringOp .add (bs z4) ⟨#[32]⟩).run Tryd.prog w = .ok (.string (bs z5)) w) := box (add20 (box h5) l5)
  have R6 : Box (∀ w, (Op.stringOp .add (bs z5) (bs (fourL y))).run Tryd.prog w = .ok (.string (bs z6)) w) := box (add20 (box h6) l6)
  have R7 : Box (∀ w, (Op.stringOp .add (bs z6) ⟨#[32]⟩).run Tryd.prog w = .ok (.string (bs z7)) w) := box (add20 (box h7) l7)
  have R8 : Box (∀ w, (Op.stringOp .add (bs z7) (bs (clkL s))).run Tryd.prog w = .ok (.string (bs z8)) w) := box (add20 (box h8) l8)
  have R9 : Box (∀ w, (Op.stringOp .add (bs z8) ⟨#[32, 71, 77, 84]⟩).run Tryd.prog w = .ok (.string (bs z9)) w) := box (add20 (box h9) (by omega))
  have FA : Box ((n : Int).tmod 7 = (a : Int) ∧ IntKind.i64.wrap (a : Int) = (a : Int) ∧ (m : Int) - 1 = (K : Int) ∧ IntKind.i64.wrap (K : Int) = (K : Int)) := box ⟨by rw [Int.tmod_eq_emod_of_nonneg (by omega)]; omega, IntWalk.i64_in _ (by omega), by omega, IntWalk.i64_in _ (by omega)⟩
  have FB : Box (((0 : Int) ≤ (a : Int) ∧ (a : Int) < 7) ∧ (0 : Int) ≤ (K : Int) ∧ (K : Int) < 12) := box (by omega)
  clear hT d2 hc h1 h2 h3 h4 h5 h6 h7 h8 h9 l1 l2 l3 l4 l5 l6 l7 l8 hz ha hK ha7 hW
  go_enter Tryd.func51, Tryd.ntmps51
  go_wp2_with fail
  refine (mCal_any n y m d _ HT.out HC.out).mono ?_; rintro e w0 ⟨rfl, rfl⟩
  go_wp2_with fail
  obtain ⟨f1, f2, f3, f4⟩ := FA.out
  obtain ⟨⟨e1, e2⟩, e3, e4⟩ := FB.out
  have r1 := R1.out
  have r2 := R2.out
  have r3 := R3.out
  have r4 := R4.out
  have r5 := R5.out
  have r6 := R6.out
  have r7 := R7.out
  have r8 := R8.out
  have r9 := R9.out
  have S1 := box HT.out.s1
  have S2 := box HT.out.s2
  have B0 := box ((Below.refl w.heap.size w).drew)
  go_region_held3 (fun w' => w'.cell? ⟨1, a, none⟩ = some (.string (bs (wkL a))) ∧ w'.cell? ⟨0, K, none⟩ = some (.string (bs (monL m)))) (first | exact ⟨(B3.out.cell S1.out).trans CW.out, (B3.out.cell S2.out).trans CM.out⟩ | exact ⟨(B2.out.cell S1.out).trans CW.out, (B2.out.cell S2.out).trans CM.out⟩ | exact ⟨(B1.out.cell S1.out).trans CW.out, (B1.out.cell S2.out).trans CM.out⟩ | exact ⟨(B0.out.cell S1.out).trans CW.out, (B0.out.cell S2.out).trans CM.out⟩) (first | (go_at_call 74; refine (mClock_any s _ hs).mono ?_; rintro e w3 ⟨rfl, hb3⟩; have B3 := box (B2.out.trans (hb3.mono B2.out.size))) | (go_at_call 73; refine (Dec20_is ⟨by omega, by omega⟩ DY4).mono ?_; rintro e w2 ⟨rfl, hb2⟩; have B2 := box (B1.out.trans (hb2.mono B1.out.size))) | (go_at_call 72; refine (mTwo_any d _ d3).mono ?_; rintro e w1 ⟨rfl, hb1⟩; have B1 := box (B0.out.trans (hb1.mono B0.out.size))))
  go_wp2
  go_ret
  exact ⟨by rw [← HZ.out]; rfl, B3.out⟩
theorem mFmt_any (t : Int) (x : List UInt8) (w : World) (hx : FmtIs t x) (hW : Tabs w) :
    Calls Tryd.prog 51 #[.int .i64 t] w fun e w' => e = .returned (.string (bs x)) ∧ Below w.heap.size w w' := by
  rcases hx with ⟨n, s, y, m, d, rfl, hs, hc, rfl⟩ | ⟨h, rfl⟩
  · exact mFmt_in _ n s y m d w rfl hs hc hW
  · clear hW
    rcases h with h | h
    · go_enter Tryd.func51, Tryd.ntmps51
      go_wp2
      go_ret
      exact ⟨rfl, Below.refl _ _⟩
    · have h0 : ¬ t < 0 := by omega
      go_enter Tryd.func51, Tryd.ntmps51
      go_wp2
      go_ret
      exact ⟨rfl, Below.refl _ _⟩
end
end Go.Proofs.YteemoibikkmlbaaDoor.Asc
