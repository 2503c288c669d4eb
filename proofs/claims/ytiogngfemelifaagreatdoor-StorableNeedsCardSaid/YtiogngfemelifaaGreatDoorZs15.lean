/- Merged texts: VrySpec5 VryRef3 StoRef2. -/
import Derived.Test.YtiogngfemelifaaGreatDoorZs04
import Derived.Test.YtiogngfemelifaaGreatDoorZs09
import Derived.Test.YtiogngfemelifaaGreatDoorZs11
import Derived.Test.YtiogngfemelifaaGreatDoorZs13
import Derived.Test.YtiogngfemelifaaGreatDoorZs14
import Derived.Deep.Cut
import Derived.Sort.Walk0
set_option linter.unusedVariables false
set_option linter.unusedSimpArgs false
set_option maxRecDepth 100000
namespace Go.Proofs.YtiogngfemelifaaGreatDoor.Asc
section
theorem insU_same {x : BL} : ∀ {U : List BL} {j : Nat} (h : j < U.length), (∀ i (hi : i < U.length), i < j → U[i] < x) → U[j] = x → insU x U = U
  | y :: ys, 0, h, _, e => by
    have e' : y = x := e
    unfold insU
    rw [if_neg (by rw [e']; exact ltB_irrefl x), if_pos e']
  | y :: ys, j + 1, h, hl, e => by
    have h0 : y < x := hl 0 (Nat.zero_lt_succ _) (Nat.zero_lt_succ _)
    unfold insU
    rw [if_pos h0, insU_same (U := ys) (j := j) (by simpa using h) (fun i hi hij => hl (i + 1) (by simpa using hi) (by omega)) (by simpa using e)]
theorem insU_put {x : BL} : ∀ {U : List BL} {j : Nat}, j ≤ U.length → (∀ i (hi : i < U.length), i < j → U[i] < x) → (∀ h : j < U.length, ¬ U[j] < x ∧ U[j] ≠ x) → insU x U = U.take j ++ [x] ++ U.drop j
  | [], j, h, _, _ => by simp [insU]
  | y :: ys, 0, h, _, e => by
    have e' : ¬ y < x ∧ y ≠ x := e (Nat.zero_lt_succ _)
    unfold insU
    rw [if_neg e'.1, if_neg e'.2]; rfl
  | y :: ys, j + 1, h, hl, e => by
    have h0 : y < x := hl 0 (Nat.zero_lt_succ _) (Nat.zero_lt_succ _)
    unfold insU
    rw [if_pos h0, insU_put (U := ys) (j := j) (by simpa using h) (fun i hi hij => hl (i + 1) (by simpa using hi) (by omega)) (fun h => e (by simpa using h))]
    simp
def okM (m : BL) : Bool := tokL m && decide (m ≠ [42])
theorem okU_no {ms : List BL} {k : Nat} (h : k < ms.length) (e : okM ms[k] = false) : okU ms = false := by
  unfold okU
  have : (ms.all fun m => tokL m && decide (m ≠ [42])) = false := by
    rw [List.all_eq_false]
    exact ⟨ms[k], List.getElem_mem h, by have e' : (tokL ms[k] && decide (ms[k] ≠ [42])) = false := e; rw [e']; simp⟩
  rw [this, Bool.and_false]
theorem okU_long {ms : List BL} (h : ¬ ms.length < 64) : okU ms = false := by unfold okU; rw [decide_eq_false h, Bool.false_and]
theorem okM_more {ms : List BL} {k : Nat} (h : k < ms.length) (ha : (ms.take k).all okM = true) (e : okM ms[k] = true) : (ms.take (k + 1)).all okM = true := by
  rw [List.take_succ_eq_append_getElem h, List.all_append, ha, List.all_cons, e]; rfl
theorem okU_yes {ms : List BL} {k : Nat} (h : ms.length < 64) (hk : ms.length ≤ k) (ha : (ms.take k).all okM = true) : okU ms = true := by
  rw [List.take_of_length_le hk] at ha
  unfold okU
  rw [decide_eq_true h, Bool.true_and]; exact ha
/-- the names as strings -/
def namB (ms : List BL) : List ByteArray := (namesU ms).map bs
/-- 19.1: what is returned -/
def nmsB (L : List F) : List ByteArray := (namesV L).map bs
theorem nmsB_no {L : List F} (h : okU (allL nmVry L) = false) : nmsB L = [] := by unfold nmsB namesV; rw [h]; rfl
theorem nmsB_yes {L : List F} (h : okU (allL nmVry L) = true) : nmsB L = namB (allL nmVry L) := by unfold nmsB namesV namB; rw [h]; rfl
theorem namB_len (ms : List BL) : (namB ms).length ≤ ms.length := by unfold namB; rw [List.length_map]; exact namesU_len ms
theorem namB_at {ms : List BL} {i : Nat} (h : i < (namB ms).length) : (namB ms)[i].data.toList = (namesU ms)[i]'(by unfold namB at h; rwa [List.length_map] at h) := by
  simp only [namB, List.getElem_map]; rfl
/-- a name that stands there -/
theorem namB_same {ms : List BL} {k j : Nat} {R : List ByteArray} {x : ByteArray} (h : k < ms.length) (hR : namB (ms.take k) = R) (hx : bs (lowL ms[k]) = x) (hj : j < R.length)
    (hl : ∀ i (hi : i < R.length), i < j → R[i].data.toList < x.data.toList) (e : R[j] = x) : namB (ms.take (k + 1)) = R := by
  subst hR; subst hx
  have hn : ∀ {i}, i < (namesU (ms.take k)).length → i < (namB (ms.take k)).length := fun q => by unfold namB; rwa [List.length_map]
  have hj' : j < (namesU (ms.take k)).length := by unfold namB at hj; rwa [List.length_map] at hj
  unfold namB
  rw [namesU_next h, insU_same hj' (fun i hi hij => by
    have := hl i (hn hi) hij
    rw [namB_at] at this; exact this) (by
    have := congrArg (fun b : ByteArray => b.data.toList) e
    rw [namB_at hj] at this; exact this)]
theorem namB_put {ms : List BL} {k j : Nat} {R : List ByteArray} {x : ByteArray} (h : k < ms.length) (hR : namB (ms.take k) = R) (hx : bs (lowL ms[k]) = x) (hj : j ≤ R.length)
    (hl : ∀ i (hi : i < R.length), i < j → R[i].data.toList < x.data.toList) (e : ∀ hi : j < R.length, ¬ R[j].data.toList < x.data.toList ∧ R[j] ≠ x) : namB (ms.take (k + 1)) = R.take j ++ [x] ++ R.drop j := by
  subst hR; subst hx
  have hn : ∀ {i}, i < (namesU (ms.take k)).length → i < (namB (ms.take k)).length := fun q => by unfold namB; rwa [List.length_map]
  have hj' : j ≤ (namesU (ms.take k)).length := by unfold namB at hj; rwa [List.length_map] at hj
  unfold namB
  rw [namesU_next h, insU_put hj' (fun i hi hij => by
    have := hl i (hn hi) hij
    rw [namB_at] at this; exact this) (fun hi => by
    obtain ⟨e1, e2⟩ := e (hn hi)
    refine ⟨by rw [namB_at] at e1; exact e1, fun q => e2 ?_⟩
    apply ByteArray.ext
    apply Array.ext'
    have := namB_at (hn hi)
    rw [this, q]; rfl)]
  simp [namB]
end
section
open Go.RowKit
theorem star19_is (x : ByteArray) (b : Bool) (h : decide (x.data.toList = [42]) = b) : (x.toList == [42]) = b := by
  rw [← h, toList_data, Bool.eq_iff_iff, beq_iff_eq, decide_eq_true_eq]
theorem less_is {x y : ByteArray} {b : Bool} (h : decide (x.data.toList < y.data.toList) = b) : Op.bytesLess x.toList y.toList = b := by
  rw [bytesLess_eq, toList_data, toList_data]; exact h
theorem rTok19_is {s : ByteArray} {b : Bool} {w : World} (hs : s.size ≤ 65000) (h : Box (tokL s.data.toList = b)) :
    Calls Tryz.prog 47 #[.string s] w fun e w' => e = .returned (.bool b) ∧ w = w' :=
  (rToken_any s w (by unfold maxLen; omega)).mono fun e w' ⟨h1, h2⟩ => ⟨by rw [h1, h.out], h2⟩
theorem src_one {w : World} {g c : Nat} {y : ByteArray} (h : w.cell? ⟨g, 0, none⟩ = some (.string y)) : SrcS w (.slice (some ⟨g, 0, none⟩) 1 c) [y] :=
  .inr ⟨_, _, rfl, fun i hi => ⟨g, 0, rfl, by
    have : i = 0 := by simpa using hi
    subst this; exact h⟩⟩
/-- the names of the first k members -/
def NmRel (ms : List BL) (W : World) (v i : Value) (wr : World) : Prop :=
  ∃ k : Nat, i = .int .i64 k ∧ k ≤ ms.length ∧ (ms.take k).all okM = true ∧ OwnS wr W.heap.size v (namB (ms.take k)) ∧ Box (Below W.heap.size W wr)
/-- names ahead of x -/
def At19Rel (R : List ByteArray) (x : ByteArray) (i : Value) : Prop :=
  ∃ j : Nat, i = .int .i64 j ∧ j ≤ R.length ∧ Box (∀ i (hi : i < R.length), i < j → R[i].data.toList < x.data.toList)
def NamesY (w : World) (L : List F) (e : Ending) (w' : World) : Prop := ∃ v, e = .returned (.tuple #[v, .bool (namesO L)]) ∧ OwnS w' w.heap.size v (nmsB L) ∧ Below w.heap.size w w'
set_option maxHeartbeats 8000000 in
theorem rNames_any (a : Option Addr) (cap : Nat) (L : List F) (w : World) (S : Box (Sm L)) (hv : Box (∀ x ∈ getL nmVry L, x.size ≤ 65000)) (hF : Box (Fs w a L)) :
    Calls Tryz.prog 25 #[.slice a L.length cap] w fun e w' => NamesY w L e w' := by
  obtain ⟨ms, hms⟩ : ∃ ms, allL nmVry L = ms := ⟨_, rfl⟩
  have HMS := box hms
  obtain ⟨m, hm⟩ : ∃ m, ms.length = m := ⟨_, rfl⟩
  have HB : Box ((allB nmVry L).length = m) := box (by unfold allB; rw [List.length_map, hms, hm])
  have HZ := box (allB_mem19 hv.out)
  have hnv : nmVry.size ≤ 65536 := by decide
  by_cases hm0 : m < 64
  · have hmi : ¬ (64 : Int) ≤ (m : Int) := by omega
    have HM := box hm
    clear hms hm
    go_enter Tryz.func25, Tryz.ntmps25
    go_wp2_with fail
    refine (rAll19_is (nm := nmVry) S hv hnv hF.out HB).mono ?_; rintro e w0 ⟨p, c, rfl, hS, hb⟩
    have B0 := box hb
    have S0 := box hS
    have hs00 := hb.size
    clear hb hS
    go_wp2
    go_loopw [5, 6] (fun v i wr => NmRel ms w0 v i wr) (fun _ i _ => m - (intOf i).toNat)
    case atStart => exact ⟨0, rfl, Nat.zero_le _, rfl, OwnS.nil _ _, box (Below.refl _ _)⟩
    case round =>
      obtain ⟨k, rfl, hk, hall, hO, B1⟩ := hrel
      obtain ⟨ws, rfl⟩ : ∃ ws, ws = wr := ⟨_, rfl⟩
      have HA := box hall
      have O := box hO
      obtain ⟨oa, oc, rfl, hSo, hoc⟩ := hO.ss
      obtain ⟨R, hR⟩ : ∃ R, namB (ms.take k) = R := ⟨_, rfl⟩
      have HR := box hR
      rw [hR] at O hSo hoc ⊢
      obtain ⟨n, hn⟩ : ∃ n, R.length = n := ⟨_, rfl⟩
      have HN := box hn
      rw [hn] at O hoc ⊢
      have hs1 := B1.out.size
      have SO := box hSo
      have hnk : n ≤ k := by
        have h1 := namB_len (ms.take k)
        rw [hR, hn, List.length_take] at h1; omega
      rw [HM.out] at hk
      clear hall hO hSo hR
      by_cases hkm : k < m
      · have hki : (k : Int) < (m : Int) := by omega
        have hk0 : (0 : Int) ≤ (k : Int) := by omega
        have HKL := box (show k < ms.length by rw [HM.out]; exact hkm)
        obtain ⟨x, hx⟩ : ∃ x, bs (ms[k]'HKL.out) = x := ⟨_, rfl⟩
        have hkb : k < (allB nmVry L).length := by rw [HB.out]; exact hkm
        have hx2 : (allB nmVry L)[k] = x := by
          rw [← hx]
          simp only [allB, List.getElem_map]
          congr 1
          simp only [HMS.out]
        obtain ⟨g, off, rfl, c0⟩ := (S0.out.below B1.out) k hkb
        rw [hx2] at c0
        have hxz : x.size ≤ 65000 := by rw [← hx2]; exact HZ.out _ (List.getElem_mem hkb)
        obtain ⟨tb, htb⟩ : ∃ tb, tokL x.data.toList = tb := ⟨_, rfl⟩
        have HTB := box htb
        obtain ⟨sb, hsb⟩ : ∃ sb, decide (x.data.toList = [42]) = sb := ⟨_, rfl⟩
        have hst := star19_is x sb hsb
        have HOK : Box (okM (ms[k]'HKL.out) = (tb && !sb)) := box (by rw [← htb, ← hsb, ← hx]; unfold okM; rw [bs_toList, decide_not])
        clear hsb htb
        cases tb with
        | false =>
          have HNO : Box (okU (allL nmVry L) = false) := box (by rw [HMS.out]; exact okU_no HKL.out (by rw [HOK.out]; rfl))
          clear hx hx2 hkb
          go_wp2_with fail
          refine (rTok19_is hxz HTB).mono ?_; rintro e w2 ⟨rfl, rfl⟩
          go_wp2
          go_ret2
          exact ⟨_, by unfold namesO; rw [HNO.out]; rfl, by rw [nmsB_no HNO.out]; exact OwnS.nil _ _, B0.out.trans (B1.out.mono hs00)⟩
        | true =>
          cases sb with
          | true =>
            have HNO : Box (okU (allL nmVry L) = false) := box (by rw [HMS.out]; exact okU_no HKL.out (by rw [HOK.out]; rfl))
            clear hx hx2 hkb
            go_wp2_with fail
            refine (rTok19_is hxz HTB).mono ?_; rintro e w2 ⟨rfl, rfl⟩
            go_wp2
            go_ret2
            exact ⟨_, by unfold namesO; rw [HNO.out]; rfl, by rw [nmsB_no HNO.out]; exact OwnS.nil _ _, B0.out.trans (B1.out.mono hs00)⟩
          | false =>
            have HOKK : Box ((ms.take (k + 1)).all okM = true) := box (okM_more HKL.out HA.out (by rw [HOK.out]; rfl))
            obtain ⟨y, hy⟩ : ∃ y, bs (lowL x.data.toList) = y := ⟨_, rfl⟩
            have HY := box hy
            have HY2 : Box (bs (lowL (ms[k]'HKL.out)) = y) := box (by rw [← hy, ← hx]; rfl)
            clear hx hx2 hkb hy
            go_wp2_with fail
            refine (rTok19_is hxz HTB).mono ?_; rintro e w2 ⟨rfl, rfl⟩
            go_wp2_with fail
            refine (rLow19_is (by omega) HY).mono ?_; rintro e w3 ⟨rfl, hb3⟩
            have B3 := box (B1.out.trans (hb3.mono hs1))
            have O3 := box (own_below O.out hb3)
            have SO3 := box (SO.out.below hb3)
            have hs3 := B3.out.size
            clear hb3 c0
            go_wp2
            go_loop [8] (fun i => At19Rel R y i) (fun i => n - (intOf i).toNat)
            case atStart => exact ⟨0, rfl, Nat.zero_le _, box (fun i hi h => by omega)⟩
            case round =>
              obtain ⟨j, rfl, hj, HJ⟩ := hrel
              have hj0 : (0 : Int) ≤ (j : Int) := by omega
              rw [hn] at hj
              by_cases hjn : j < n
              · have hji : (j : Int) < (n : Int) := by omega
                have hjR : j < R.length := by rw [hn]; exact hjn
                obtain ⟨z, hz⟩ : ∃ z, R[j] = z := ⟨_, rfl⟩
                obtain ⟨g2, off2, rfl, c2⟩ := SO3.out j hjR
                rw [hz] at c2
                obtain ⟨lb, hlb⟩ : ∃ lb, decide (z.data.toList < y.data.toList) = lb := ⟨_, rfl⟩
                have hls := less_is hlb
                cases lb with
                | true =>
                  have HJ2 := box (show ∀ i (hi : i < R.length), i < j + 1 → R[i].data.toList < y.data.toList from fun i hi h => by
                    rcases Nat.lt_or_ge i j with q | q
                    · exact HJ.out i hi q
                    · have : i = j := by omega
                      subst this
                      rw [hz]; exact of_decide_eq_true hlb)
                  clear hlb hz hjR
                  go_wp2
                  go_round
                  case rel => exact ⟨j + 1, by go_num, by rw [HN.out]; omega, HJ2⟩
                  case measure => simp [intOf]; omega
                | false =>
                  obtain ⟨eb, heb⟩ : ∃ eb, (z.toList == y.toList) = eb := ⟨_, rfl⟩
                  cases eb with
                  | true =>
                    have HSAME : Box (namB (ms.take (k + 1)) = R) := box (namB_same HKL.out HR.out HY2.out hjR HJ.out (by rw [hz]; exact str_eq heb))
                    clear hlb hz hjR
                    go_wp2
                    go_roundw
                    case rel => exact ⟨k + 1, by go_num, by rw [HM.out]; omega, HOKK.out, by rw [HSAME.out, ← HN.out] at *; exact O3.out, B3⟩
                    case measure => simp [intOf]; omega
                  | false =>
                    have HPUT : Box (namB (ms.take (k + 1)) = R.take j ++ [y] ++ R.drop j) := box (namB_put HKL.out HR.out HY2.out (by omega) HJ.out (fun hi => ⟨by rw [hz]; exact of_decide_eq_false hlb, by
                      rw [hz]; intro e; subst e; simp at heb⟩))
                    clear hlb hz hjR
                    have hr1 := fun w => run_hi19 (a := (some ⟨g2, off2, none⟩ : Option Addr)) (n := n) (cap := oc) (k := j) (by omega) w
                    have hr2 := fun w => run_lo19 (a := (some ⟨g2, off2, none⟩ : Option Addr)) (n := n) (cap := oc) (k := j) (by omega) w
                    have SH := box (src_hi O3.out HN.out (show j ≤ n by omega))
                    have SL0 := box (src_lo O3.out HN.out (show j ≤ n by omega))
                    obtain ⟨u, hu⟩ : ∃ u, Value.slice (if oc = j then (some ⟨g2, off2, none⟩ : Option Addr) else (some ⟨g2, off2, none⟩ : Option Addr).map (·.add j)) (n - j) (oc - j) = u := ⟨_, rfl⟩
                    have SL : Box (SrcS w3 u (R.drop j)) := box (by rw [← hu]; exact SL0.out)
                    simp only [hu] at hr2
                    have hRl : Box (R.length ≤ 64) := box (by rw [HN.out]; omega)
                    clear hu SL0
                    go_wp2_with (at_builtin; refine wpList_append_src _ rfl (.const (.slice none 0 0)) (.tmp 67) rfl w3.heap.size _ [] rfl (OwnS.nil _ _) _ (R.take j) rfl SH.out (Nat.zero_le _) ?l0x (Nat.le_refl _) ?n0x)
                    case l0x => have := hRl.out; (try simp); omega
                    case n0x =>
                      intro v4 w4 hO4 hb4
                      try rw [List.nil_append] at hO4
                      have O4 := box hO4
                      have B4 := box hb4
                      have hs4 := hb4.size
                      have BS0 := box ((Below.refl w4.heap.size w4).drew)
                      clear hO4 hb4
                      go_wp2
                      refine wp_region_held_drew (S := (fun w' : World => Box (Below w3.heap.size w3 w'))) (by kernel_rfl) (box B4.out.drew) (fun hHeld => ?_)
                      refine wpAnyH_take (i := 0) (oi := { dst := some 69, op := Op.move (Operand.tmp 9), type := 38, pos := "fields.go:30", after := #[], guard := none }) (v := ?v0z1) rfl (by kernel_rfl) (by kernel_rfl) (by kernel_rfl) (fun _ _ _ h => h) (Or.inl ⟨by rfl, ?y0z1⟩) (by assumption) ?r0z1
                      case y0z1 => (intro w hSw; (try dsimp only at hSw); go_simp; first | done | with_reducible rfl)
                      try simp only [Act.put, List.setIfInBounds_toArray, List.set_cons_zero, List.set_cons_succ]
                      refine wpAnyH_take (i := 1) (oi := { dst := some 70, op := Op.move (Operand.tmp 7), type := 9, pos := "fields.go:30", after := #[], guard := none }) (v := ?v1z1) rfl (by kernel_rfl) (by kernel_rfl) (by kernel_rfl) (fun _ _ _ h => h) (Or.inl ⟨by rfl, ?y1z1⟩) (by assumption) ?r1z1
                      case y1z1 => (intro w hSw; (try dsimp only at hSw); go_simp; first | done | with_reducible rfl)
                      try simp only [Act.put, List.setIfInBounds_toArray, List.set_cons_zero, List.set_cons_succ]
                      refine wpAnyH_take (i := 4) (oi := { dst := some 73, op := Op.move (Operand.tmp 5), type := 38, pos := "fields.go:30", after := #[], guard := none }) (v := ?v4z1) rfl (by kernel_rfl) (by kernel_rfl) (by kernel_rfl) (fun _ _ _ h => h) (Or.inl ⟨by rfl, ?y4z1⟩) (by assumption) ?r4z1
                      case y4z1 => (intro w hSw; (try dsimp only at hSw); go_simp; first | done | with_reducible rfl)
                      try simp only [Act.put, List.setIfInBounds_toArray, List.set_cons_zero, List.set_cons_succ]
                      refine wpAnyH_take (i := 5) (oi := { dst := some 74, op := Op.move (Operand.tmp 8), type := 3, pos := "fields.go:30", after := #[], guard := none }) (v := ?v5z1) rfl (by kernel_rfl) (by kernel_rfl) (by kernel_rfl) (fun _ _ _ h => h) (Or.inl ⟨by rfl, ?y5z1⟩) (by assumption) ?r5z1
                      case y5z1 => (intro w hSw; (try dsimp only at hSw); go_simp; first | done | with_reducible rfl)
                      try simp only [Act.put, List.setIfInBounds_toArray, List.set_cons_zero, List.set_cons_succ]
                      refine wpAnyH_take (i := 6) (oi := { dst := some 75, op := Op.slice 38 (Operand.tmp 73) (some (Operand.tmp 74)) none none, type := 38, pos := "fields.go:30", after := #[{ on := 4, ground := Ground.data }, { on := 5, ground := Ground.data }], guard := none }) (v := ?v6z1) rfl (by kernel_rfl) (by kernel_rfl) (by kernel_rfl) (fun _ _ _ h => h) (Or.inl ⟨by rfl, ?y6z1⟩) (by assumption) ?r6z1
                      case y6z1 => (intro w hSw; (try dsimp only at hSw); go_simp; first | done | with_reducible rfl)
                      try simp only [Act.put, List.setIfInBounds_toArray, List.set_cons_zero, List.set_cons_succ]
                      refine wpAnyH_ready (rs := [2]) (by kernel_rfl) (by simp) ?_
                      refine AllReadyH.cons (o := { dst := some 71, op := Op.buildSlice 38 1 #[(0, Operand.tmp 70)], type := 38, pos := "fields.go:30", after := #[{ on := 1, ground := Ground.data }], guard := none }) rfl (fun K hK => ?_) AllReadyH.nil
                      go_simp
                      have BS1 := box (BS0.out.alloc BS0.out.size (.cells #[.string y] 9))
                      have B41 := box (B4.out.trans (BS1.out.mono hs4))
                      go_wp2_with fail
                      refine hK.out _ _ B41 (fun hHeld => ?_)
                      clear hK K
                      try simp only [Act.put, List.setIfInBounds_toArray, List.set_cons_zero, List.set_cons_succ]
                      refine wpAnyH_ready (rs := [3]) (by kernel_rfl) (by simp) ?_
                      refine AllReadyH.cons (o := { dst := some 72, op := Op.call { callee := Callee.builtin Builtin.append, args := #[Operand.tmp 69, Operand.tmp 71], argTypes := #[38, 38] }, type := 38, pos := "fields.go:30", after := #[{ on := 0, ground := Ground.data }, { on := 2, ground := Ground.data }], guard := none }) rfl (fun K hK => ?_) AllReadyH.nil
                      refine step_append_src _ rfl (.tmp 69) (.tmp 71) rfl w3.heap.size v4 (R.take j) rfl (own_below O4.out BS1.out) _ [y] rfl (src_one ((World.cell?_alloc_at (w := w4.drew) #[.string y] 9 w4.drew.heap.size 0 rfl).trans rfl)) ?l1x (by simp) B41.out.size ?n1x
                      case l1x => have := hRl.out; (try simp); omega
                      case n1x =>
                      intro v5 w5 hO5 hb5
                      have B5 := box (B41.out.trans hb5)
                      refine hK.out _ _ B5 (fun hHeld => ?_)
                      clear hK K
                      try simp only [Act.put, List.setIfInBounds_toArray, List.set_cons_zero, List.set_cons_succ]
                      refine wpAnyH_ready (rs := [7]) (by kernel_rfl) (by simp) ?_
                      refine AllReadyH.cons (o := { dst := some 76, op := Op.call { callee := Callee.builtin Builtin.append, args := #[Operand.tmp 72, Operand.tmp 75], argTypes := #[38, 38] }, type := 38, pos := "fields.go:30", after := #[{ on := 3, ground := Ground.data }, { on := 6, ground := Ground.data }, { on := 3, ground := Ground.chain }], guard := none }) rfl (fun K hK => ?_) AllReadyH.nil
                      refine step_append_src _ rfl (.tmp 72) (.tmp 75) rfl w3.heap.size v5 (R.take j ++ [y]) rfl hO5 _ (R.drop j) rfl (SL.out.below B5.out) ?l3x ?l4x B5.out.size ?n2x
                      case l3x => have := hRl.out; (try simp); omega
                      case l4x => have := hRl.out; (try simp); omega
                      case n2x =>
                      intro v6 w6 hO6 hb6
                      have B6 := box (B5.out.trans hb6)
                      refine hK.out _ _ B6 (fun hHeld => ?_)
                      clear hK K
                      try simp only [Act.put, List.setIfInBounds_toArray, List.set_cons_zero, List.set_cons_succ]
                      refine wpAnyH_take (i := 8) (oi := { dst := some 5, op := Op.assign (Operand.tmp 76), type := 38, pos := "fields.go:30", after := #[{ on := 7, ground := Ground.data }, { on := 7, ground := Ground.chain }, { on := 0, ground := Ground.phase }, { on := 1, ground := Ground.phase }, { on := 2, ground := Ground.phase }, { on := 3, ground := Ground.phase }, { on := 4, ground := Ground.phase }, { on := 5, ground := Ground.phase }, { on := 6, ground := Ground.phase }, { on := 7, ground := Ground.phase }], guard := none }) (v := ?v8z1) rfl (by kernel_rfl) (by kernel_rfl) (by kernel_rfl) (fun _ _ _ h => h) (Or.inl ⟨by rfl, ?y8z1⟩) (by assumption) ?r8z1
                      case y8z1 => (intro w hSw; (try dsimp only at hSw); go_simp; first | done | with_reducible rfl)
                      try simp only [Act.put, List.setIfInBounds_toArray, List.set_cons_zero, List.set_cons_succ]
                      refine wpAnyH_done (by kernel_rfl) ?_ _
                      have OE := box (show OwnS w6 w0.heap.size v6 (namB (ms.take (k + 1))) from by rw [HPUT.out]; exact Go.Joins.ownsRow_le hO6 hs3)
                      have BE := box (B3.out.trans (B6.out.mono hs3))
                      clear hO6 hb6 hO5 hb5 BS0 BS1 B41 B5 hHeld
                      go_wp2
                      go_roundw
                      case rel => exact ⟨k + 1, by go_num, by rw [HM.out]; omega, HOKK.out, OE.out, BE⟩
                      case measure => simp [intOf]; omega
              · have hji : ¬ (j : Int) < (n : Int) := by omega
                have HPUT : Box (namB (ms.take (k + 1)) = R.take j ++ [y] ++ R.drop j) := box (namB_put HKL.out HR.out HY2.out (by omega) HJ.out (fun hi => absurd hi (by rw [hn]; exact hjn)))
                have hr1 := fun w => run_hi19 (a := oa) (n := n) (cap := oc) (k := j) (by omega) w
                have hr2 := fun w => run_lo19 (a := oa) (n := n) (cap := oc) (k := j) (by omega) w
                have SH := box (src_hi O3.out HN.out (show j ≤ n by omega))
                have SL0 := box (src_lo O3.out HN.out (show j ≤ n by omega))
                obtain ⟨u, hu⟩ : ∃ u, Value.slice (if oc = j then oa else oa.map (·.add j)) (n - j) (oc - j) = u := ⟨_, rfl⟩
                have SL : Box (SrcS w3 u (R.drop j)) := box (by rw [← hu]; exact SL0.out)
                simp only [hu] at hr2
                have hRl : Box (R.length ≤ 64) := box (by rw [HN.out]; omega)
                clear hu SL0
                go_wp2_with (at_builtin; refine wpList_append_src _ rfl (.const (.slice none 0 0)) (.tmp 67) rfl w3.heap.size _ [] rfl (OwnS.nil _ _) _ (R.take j) rfl SH.out (Nat.zero_le _) ?l0y (Nat.le_refl _) ?n0y)
                case l0y => have := hRl.out; (try simp); omega
                case n0y =>
                  intro v4 w4 hO4 hb4
                  try rw [List.nil_append] at hO4
                  have O4 := box hO4
                  have B4 := box hb4
                  have hs4 := hb4.size
                  have BS0 := box ((Below.refl w4.heap.size w4).drew)
                  clear hO4 hb4
                  go_wp2
                  refine wp_region_held_drew (S := (fun w' : World => Box (Below w3.heap.size w3 w'))) (by kernel_rfl) (box B4.out.drew) (fun hHeld => ?_)
                  refine wpAnyH_take (i := 0) (oi := { dst := some 69, op := Op.move (Operand.tmp 9), type := 38, pos := "fields.go:30", after := #[], guard := none }) (v := ?v0z2) rfl (by kernel_rfl) (by kernel_rfl) (by kernel_rfl) (fun _ _ _ h => h) (Or.inl ⟨by rfl, ?y0z2⟩) (by assumption) ?r0z2
                  case y0z2 => (intro w hSw; (try dsimp only at hSw); go_simp; first | done | with_reducible rfl)
                  try simp only [Act.put, List.setIfInBounds_toArray, List.set_cons_zero, List.set_cons_succ]
                  refine wpAnyH_take (i := 1) (oi := { dst := some 70, op := Op.move (Operand.tmp 7), type := 9, pos := "fields.go:30", after := #[], guard := none }) (v := ?v1z2) rfl (by kernel_rfl) (by kernel_rfl) (by kernel_rfl) (fun _ _ _ h => h) (Or.inl ⟨by rfl, ?y1z2⟩) (by assumption) ?r1z2
                  case y1z2 => (intro w hSw; (try dsimp only at hSw); go_simp; first | done | with_reducible rfl)
                  try simp only [Act.put, List.setIfInBounds_toArray, List.set_cons_zero, List.set_cons_succ]
                  refine wpAnyH_take (i := 4) (oi := { dst := some 73, op := Op.move (Operand.tmp 5), type := 38, pos := "fields.go:30", after := #[], guard := none }) (v := ?v4z2) rfl (by kernel_rfl) (by kernel_rfl) (by kernel_rfl) (fun _ _ _ h => h) (Or.inl ⟨by rfl, ?y4z2⟩) (by assumption) ?r4z2
                  case y4z2 => (intro w hSw; (try dsimp only at hSw); go_simp; first | done | with_reducible rfl)
                  try simp only [Act.put, List.setIfInBounds_toArray, List.set_cons_zero, List.set_cons_succ]
                  refine wpAnyH_take (i := 5) (oi := { dst := some 74, op := Op.move (Operand.tmp 8), type := 3, pos := "fields.go:30", after := #[], guard := none }) (v := ?v5z2) rfl (by kernel_rfl) (by kernel_rfl) (by kernel_rfl) (fun _ _ _ h => h) (Or.inl ⟨by rfl, ?y5z2⟩) (by assumption) ?r5z2
                  case y5z2 => (intro w hSw; (try dsimp only at hSw); go_simp; first | done | with_reducible rfl)
                  try simp only [Act.put, List.setIfInBounds_toArray, List.set_cons_zero, List.set_cons_succ]
                  refine wpAnyH_take (i := 6) (oi := { dst := some 75, op := Op.slice 38 (Operand.tmp 73) (some (Operand.tmp 74)) none none, type := 38, pos := "fields.go:30", after := #[{ on := 4, ground := Ground.data }, { on := 5, ground := Ground.data }], guard := none }) (v := ?v6z2) rfl (by kernel_rfl) (by kernel_rfl) (by kernel_rfl) (fun _ _ _ h => h) (Or.inl ⟨by rfl, ?y6z2⟩) (by assumption) ?r6z2
                  case y6z2 => (intro w hSw; (try dsimp only at hSw); go_simp; first | done | with_reducible rfl)
                  try simp only [Act.put, List.setIfInBounds_toArray, List.set_cons_zero, List.set_cons_succ]
                  refine wpAnyH_ready (rs := [2]) (by kernel_rfl) (by simp) ?_
                  refine AllReadyH.cons (o := { dst := some 71, op := Op.buildSlice 38 1 #[(0, Operand.tmp 70)], type := 38, pos := "fields.go:30", after := #[{ on := 1, ground := Ground.data }], guard := none }) rfl (fun K hK => ?_) AllReadyH.nil
                  go_simp
                  have BS1 := box (BS0.out.alloc BS0.out.size (.cells #[.string y] 9))
                  have B41 := box (B4.out.trans (BS1.out.mono hs4))
                  go_wp2_with fail
                  refine hK.out _ _ B41 (fun hHeld => ?_)
                  clear hK K
                  try simp only [Act.put, List.setIfInBounds_toArray, List.set_cons_zero, List.set_cons_succ]
                  refine wpAnyH_ready (rs := [3]) (by kernel_rfl) (by simp) ?_
                  refine AllReadyH.cons (o := { dst := some 72, op := Op.call { callee := Callee.builtin Builtin.append, args := #[Operand.tmp 69, Operand.tmp 71], argTypes := #[38, 38] }, type := 38, pos := "fields.go:30", after := #[{ on := 0, ground := Ground.data }, { on := 2, ground := Ground.data }], guard := none }) rfl (fun K hK => ?_) AllReadyH.nil
                  refine step_append_src _ rfl (.tmp 69) (.tmp 71) rfl w3.heap.size v4 (R.take j) rfl (own_below O4.out BS1.out) _ [y] rfl (src_one ((World.cell?_alloc_at (w := w4.drew) #[.string y] 9 w4.drew.heap.size 0 rfl).trans rfl)) ?l1y (by simp) B41.out.size ?n1y
                  case l1y => have := hRl.out; (try simp); omega
                  case n1y =>
                  intro v5 w5 hO5 hb5
                  have B5 := box (B41.out.trans hb5)
                  refine hK.out _ _ B5 (fun hHeld => ?_)
                  clear hK K
                  try simp only [Act.put, List.setIfInBounds_toArray, List.set_cons_zero, List.set_cons_succ]
                  refine wpAnyH_ready (rs := [7]) (by kernel_rfl) (by simp) ?_
                  refine AllReadyH.cons (o := { dst := some 76, op := Op.call { callee := Callee.builtin Builtin.append, args := #[Operand.tmp 72, Operand.tmp 75], argTypes := #[38, 38] }, type := 38, pos := "fields.go:30", after := #[{ on := 3, ground := Ground.data }, { on := 6, ground := Ground.data }, { on := 3, ground := Ground.chain }], guard := none }) rfl (fun K hK => ?_) AllReadyH.nil
                  refine step_append_src _ rfl (.tmp 72) (.tmp 75) rfl w3.heap.size v5 (R.take j ++ [y]) rfl hO5 _ (R.drop j) rfl (SL.out.below B5.out) ?l3y ?l4y B5.out.size ?n2y
                  case l3y => have := hRl.out; (try simp); omega
                  case l4y => have := hRl.out; (try simp); omega
                  case n2y =>
                  intro v6 w6 hO6 hb6
                  have B6 := box (B5.out.trans hb6)
                  refine hK.out _ _ B6 (fun hHeld => ?_)
                  clear hK K
                  try simp only [Act.put, List.setIfInBounds_toArray, List.set_cons_zero, List.set_cons_succ]
                  refine wpAnyH_take (i := 8) (oi := { dst := some 5, op := Op.assign (Operand.tmp 76), type := 38, pos := "fields.go:30", after := #[{ on := 7, ground := Ground.data }, { on := 7, ground := Ground.chain }, { on := 0, ground := Ground.phase }, { on := 1, ground := Ground.phase }, { on := 2, ground := Ground.phase }, { on := 3, ground := Ground.phase }, { on := 4, ground := Ground.phase }, { on := 5, ground := Ground.phase }, { on := 6, ground := Ground.phase }, { on := 7, ground := Ground.phase }], guard := none }) (v := ?v8z2) rfl (by kernel_rfl) (by kernel_rfl) (by kernel_rfl) (fun _ _ _ h => h) (Or.inl ⟨by rfl, ?y8z2⟩) (by assumption) ?r8z2
                  case y8z2 => (intro w hSw; (try dsimp only at hSw); go_simp; first | done | with_reducible rfl)
                  try simp only [Act.put, List.setIfInBounds_toArray, List.set_cons_zero, List.set_cons_succ]
                  refine wpAnyH_done (by kernel_rfl) ?_ _
                  have OE := box (show OwnS w6 w0.heap.size v6 (namB (ms.take (k + 1))) from by rw [HPUT.out]; exact Go.Joins.ownsRow_le hO6 hs3)
                  have BE := box (B3.out.trans (B6.out.mono hs3))
                  clear hO6 hb6 hO5 hb5 BS0 BS1 B41 B5 hHeld
                  go_wp2
                  go_roundw
                  case rel => exact ⟨k + 1, by go_num, by rw [HM.out]; omega, HOKK.out, OE.out, BE⟩
                  case measure => simp [intOf]; omega
      · have hki : ¬ (k : Int) < (m : Int) := by omega
        have HYES : Box (okU (allL nmVry L) = true) := box (by rw [HMS.out]; exact okU_yes (by rw [HM.out]; exact hm0) (by rw [HM.out]; omega) HA.out)
        have HE : Box (R = nmsB L) := box (by rw [nmsB_yes HYES.out, HMS.out, ← HR.out, List.take_of_length_le (by rw [HM.out]; omega)])
        have OE := box (show OwnS ws w0.heap.size (.slice oa n oc) (nmsB L) from by rw [← HE.out]; exact O.out)
        go_wp2
        go_ret2
        exact ⟨_, by unfold namesO; rw [HYES.out]; rfl, Go.Joins.ownsRow_le OE.out hs00, B0.out.trans (B1.out.mono hs00)⟩
  · have hmi : (64 : Int) ≤ (m : Int) := by omega
    have HNO : Box (okU (allL nmVry L) = false) := box (okU_long (by rw [hms, hm]; exact hm0))
    clear hms hm
    go_enter Tryz.func25, Tryz.ntmps25
    go_wp2_with fail
    refine (rAll19_is (nm := nmVry) S hv hnv hF.out HB).mono ?_; rintro e w0 ⟨p, c, rfl, hS, hb⟩
    have B0 := box hb
    clear hb hS
    go_wp2
    go_ret2
    exact ⟨_, by unfold namesO; rw [HNO.out]; rfl, by rw [nmsB_no HNO.out]; exact OwnS.nil _ _, B0.out⟩
end
section
open Go.RowKit
theorem rCtlQ_is {a : Option Addr} {cap n : Nat} {L : List F} {c : CT} {w : World} (S : Box (Sm L)) (hv : Box (∀ nm, ∀ x ∈ getL nm L, x.size ≤ 65000)) (hF : Box (Fs w a L)) (HC : Box (ctQ L = c)) (hn : Box (L.length = n)) :
    Calls Tryz.prog 23 #[.slice a n cap] w fun e w' => e = .returned (ctV c) ∧ Below w.heap.size w w' := by
  have h := rReqC_any a cap L w S hv hF c HC
  rw [hn.out] at h; exact h
theorem rCtlR_is {a : Option Addr} {cap n : Nat} {L : List F} {c : CT} {w : World} (S : Box (Sm L)) (hv : Box (∀ nm, ∀ x ∈ getL nm L, x.size ≤ 65000)) (hF : Box (Fs w a L)) (HC : Box (respC (allL ccN L) = c)) (hn : Box (L.length = n)) :
    Calls Tryz.prog 24 #[.slice a n cap] w fun e w' => e = .returned (ctV c) ∧ Below w.heap.size w w' := by
  have h := rResp_any a cap L w S (box (hv.out ccN)) hF c HC
  rw [hn.out] at h; exact h
theorem rNames24_is {a : Option Addr} {cap n : Nat} {L : List F} {o : Bool} {w : World} (S : Box (Sm L)) (hv : Box (∀ nm, ∀ x ∈ getL nm L, x.size ≤ 65000)) (hF : Box (Fs w a L)) (HO : Box (namesO L = o)) (hn : Box (L.length = n)) :
    Calls Tryz.prog 25 #[.slice a n cap] w fun e w' => (∃ p k c, e = .returned (.tuple #[.slice p k c, .bool o])) ∧ Below w.heap.size w w' := by
  have h := rNames_any a cap L w S (box (hv.out nmVry)) hF
  rw [hn.out] at h
  refine h.mono fun e w' ⟨v, h1, h2, h3⟩ => ?_
  obtain ⟨p, c, rfl, _, _⟩ := h2.ss
  exact ⟨⟨p, _, c, by rw [h1, HO.out]⟩, h3⟩
theorem rHas24_is {a : Option Addr} {cap n : Nat} {L : List F} {nm : ByteArray} {q : Bool} {w : World} (S : Box (Sm L)) (M : nm.size ≤ 65536) (hF : Box (Fs w a L)) (h : Box (L.any (nmd nm) = q)) (hn : Box (L.length = n)) :
    Calls Tryz.prog 26 #[.slice a n cap, .string nm] w fun e w' => e = .returned (.bool q) ∧ Below w.heap.size w w' := by
  have h := rHas22_is (cap := cap) S M hF h
  rw [hn.out] at h; exact h
theorem rLife24_is {a : Option Addr} {cap n : Nat} {L : List F} {v : Int} {w : World} (S : Box (Sm L)) (hv : Box (∀ nm, ∀ x ∈ getL nm L, x.size ≤ 65000)) (hF : Box (Fs w a L)) (h : Box (lifS L = v)) (hn : Box (L.length = n)) :
    Calls Tryz.prog 16 #[.slice a n cap] w fun e w' => e = .returned (.int .i64 v) ∧ Below w.heap.size w w' := by
  have h := rLife_any a cap L v w S hv hF h
  rw [hn.out] at h; exact h
theorem rVal24_is {a : Option Addr} {cap n : Nat} {L : List F} {v : Bool} {w : World} (S : Box (Sm L)) (hv : Box (∀ nm, ∀ x ∈ getL nm L, x.size ≤ 65000)) (hF : Box (Fs w a L)) (h : Box (valT L = v)) (hn : Box (L.length = n)) :
    Calls Tryz.prog 13 #[.slice a n cap] w fun e w' => e = .returned (.bool v) ∧ Below w.heap.size w w' := by
  have h := rVal_any a cap L v w S hv hF h
  rw [hn.out] at h; exact h
set_option maxHeartbeats 8000000 in
theorem rStor_in (m t : ByteArray) (n : Int) (a : Option Addr) (cap nq : Nat) (Q : List F) (b : ByteArray) (k s : Int) (r : ByteArray) (a' : Option Addr) (cap' nl : Nat) (L : List F) (b' : ByteArray) (w : World)
    (SQ : Box (Sm Q)) (hvQ : Box (∀ nm, ∀ x ∈ getL nm Q, x.size ≤ 65000)) (hQ : Box (Fs w a Q)) (HNQ : Box (Q.length = nq)) (SL : Box (Sm L)) (hvL : Box (∀ nm, ∀ x ∈ getL nm L, x.size ≤ 65000)) (hL : Box (Fs w a' L)) (HNL : Box (L.length = nl))
    (d c : CT) (HD : Box (ctQ Q = d)) (HC : Box (respC (allL ccN L) = c)) (g o rg au vl v : Bool) (x : Int) (HG : (m.toList == [71, 69, 84]) = g) (HO : Box (namesO L = o)) (HR : Box (Q.any (nmd rgN) = rg)) (HA : Box (Q.any (nmd auN) = au)) (HX : Box (lifS L = x)) (HL : Box (valT L = vl)) (sv : Bool) (HS : (s == 200) = sv)
    (HV : Box (storB g sv d.ns c o rg au (decide (0 < x)) vl = v)) :
    Calls Tryz.prog 9 #[.agg #[.string m, .string t, .int .i64 n, .slice a nq cap, .string b], .agg #[.int .i64 k, .int .i64 s, .string r, .slice a' nl cap', .string b']] w fun e w' => e = .returned (.bool v) ∧ Below w.heap.size w w' := by
  obtain ⟨W0, hW0⟩ : ∃ W0, (w.alloc (.cells #[.string m, .string t, .int .i64 n, .slice a nq cap, .string b] 24)).alloc (.cells #[.int .i64 k, .int .i64 s, .string r, .slice a' nl cap', .string b'] 26) = W0 := ⟨_, rfl⟩
  have HW := box hW0
  have B0 : Box (Below w.heap.size w W0) := box (by rw [← hW0]; exact (below_new w _).trans ((below_new _ _).mono (size_more _ _)))
  have CQ : Box (C5 w.heap.size (.string m) (.string t) (.int .i64 n) (.slice a nq cap) (.string b) W0) := box (by rw [← hW0]; exact (C5.new _ _ _ _ _ w _).next (below_new _ _))
  have CR : Box (C5 (w.heap.size + 1) (.int .i64 k) (.int .i64 s) (.string r) (.slice a' nl cap') (.string b') W0) := box (by
    have h := C5.new (.int .i64 k) (.int .i64 s) (.string r) (.slice a' nl cap') (.string b') (w.alloc (.cells #[.string m, .string t, .int .i64 n, .slice a nq cap, .string b] 24)) 26
    rw [show (w.alloc (.cells #[.string m, .string t, .int .i64 n, .slice a nq cap, .string b] 24)).heap.size = w.heap.size + 1 from by simp] at h
    rw [← hW0]; exact h)
  have FQ0 := box (hQ.out.below B0.out)
  have FL0 := box (hL.out.below B0.out)
  obtain ⟨dns, d1, d2, d3, d4, d5, d6, d7, d8, d9, d10⟩ := d
  obtain ⟨cns, cnc, cmr, cpr, cpv, cpb, coc, cma, csm, cmf, cms⟩ := c
  obtain ⟨sb, hsm⟩ : ∃ sb, (csm == -1) = sb := ⟨_, rfl⟩
  have hs2 : (s != 200) = !sv := by rw [← HS]; rfl
  have q3 := CQ.out.1.2.2.2.1
  have r3 := CR.out.1.2.2.2.1
  clear hW0
  go_enter Tryz.func9, Tryz.ntmps9
  go_upto_region 1 with fail
  rw [HW.out]
  go_cut [5, 6] from 9 (fun s5 s6 wx => ∃ g5 g6, s5 = .pointer (some ⟨g5, 0, none⟩) ∧ s6 = .pointer (some ⟨g6, 0, none⟩) ∧ Box (Ct g5 ⟨dns, d1, d2, d3, d4, d5, d6, d7, d8, d9, d10⟩ wx) ∧ Box (Ct g6 ⟨cns, cnc, cmr, cpr, cpv, cpb, coc, cma, csm, cmf, cms⟩ wx) ∧ Box (Below W0.heap.size W0 wx))
  case first =>
      refine wp_region_held_drew (S := (fun w' : World => (w'.cell? ⟨w.heap.size, 3, none⟩ = some (.slice a nq cap) ∧ w'.cell? ⟨w.heap.size + 1, 3, none⟩ = some (.slice a' nl cap')) ∧ Box (Below W0.heap.size W0 w'))) (by kernel_rfl) ⟨⟨q3, r3⟩, box (Below.refl _ _).drew⟩ (fun hHeld => ?_)
      have N_ : Box (Below W0.heap.size W0 W0.drew) := box (Below.refl _ _).drew
      refine wpAnyH_take (i := 0) (oi := { dst := some 9, op := Op.fieldAddr 24 (Operand.tmp 2) 3, type := 0, pos := "fields.go:373", after := #[], guard := none }) (v := ?v0z) rfl (by kernel_rfl) (by kernel_rfl) (by kernel_rfl) (fun _ _ _ h => h) (Or.inl ⟨by rfl, ?y0z⟩) (by assumption) ?r0z
      case y0z => (intro w hSw; (try dsimp only at hSw); go_simp; first | done | with_reducible rfl)
      try simp only [Act.put, List.setIfInBounds_toArray, List.set_cons_zero, List.set_cons_succ]
      refine wpAnyH_take (i := 1) (oi := { dst := some 10, op := Op.load 22 (Operand.tmp 9), type := 22, pos := "fields.go:373", after := #[{ on := 0, ground := Ground.data }], guard := none }) (v := ?v1z) rfl (by kernel_rfl) (by kernel_rfl) (by kernel_rfl) (fun _ _ _ h => h) (Or.inl ⟨by rfl, ?y1z⟩) (by assumption) ?r1z
      case y1z => (intro w hSw; (try dsimp only at hSw); go_simp; first | done | with_reducible rfl)
      try simp only [Act.put, List.setIfInBounds_toArray, List.set_cons_zero, List.set_cons_succ]
      refine wpAnyH_take (i := 3) (oi := { dst := some 12, op := Op.fieldAddr 26 (Operand.tmp 3) 3, type := 0, pos := "fields.go:373", after := #[], guard := none }) (v := ?v3z) rfl (by kernel_rfl) (by kernel_rfl) (by kernel_rfl) (fun _ _ _ h => h) (Or.inl ⟨by rfl, ?y3z⟩) (by assumption) ?r3z
      case y3z => (intro w hSw; (try dsimp only at hSw); go_simp; first | done | with_reducible rfl)
      try simp only [Act.put, List.setIfInBounds_toArray, List.set_cons_zero, List.set_cons_succ]
      refine wpAnyH_take (i := 4) (oi := { dst := some 13, op := Op.load 22 (Operand.tmp 12), type := 22, pos := "fields.go:373", after := #[{ on := 3, ground := Ground.data }], guard := none }) (v := ?v4z) rfl (by kernel_rfl) (by kernel_rfl) (by kernel_rfl) (fun _ _ _ h => h) (Or.inl ⟨by rfl, ?y4z⟩) (by assumption) ?r4z
      case y4z => (intro w hSw; (try dsimp only at hSw); go_simp; first | done | with_reducible rfl)
      try simp only [Act.put, List.setIfInBounds_toArray, List.set_cons_zero, List.set_cons_succ]
      refine wpAnyH_ready (rs := [2, 6, 7]) (by kernel_rfl) (by simp) ?_
      refine AllReadyH.cons (o := { dst := some 11, op := Op.call { callee := Callee.value (Operand.func 23), args := #[Operand.tmp 10], argTypes := #[22] }, type := 36, pos := "fields.go:373", after := #[{ on := 1, ground := Ground.data }], guard := none }) rfl (fun K hK => ?_) (AllReadyH.cons (o := { dst := some 5, op := Op.alloc 36, type := 0, pos := "fields.go:373", after := #[], guard := none }) rfl (fun K hK => ?_) (AllReadyH.cons (o := { dst := some 6, op := Op.alloc 36, type := 0, pos := "fields.go:373", after := #[], guard := none }) rfl (fun K hK => ?_) AllReadyH.nil))
      · go_simp
        refine (rCtlQ_is SQ hvQ (box (FQ0.out.below N_.out)) HD HNQ).mono ?_; rintro e w_c ⟨rfl, hb⟩
        have N_c := box (N_.out.trans (hb.mono N_.out.size))
        clear hb
        go_wp2_with fail
        refine hK.out _ _ ⟨⟨(N_c.out.cell (cell_lt q3)).trans q3, (N_c.out.cell (cell_lt r3)).trans r3⟩, N_c⟩ (fun hHeld => ?_)
        clear hK K
        try simp only [Act.put, List.setIfInBounds_toArray, List.set_cons_zero, List.set_cons_succ]
        refine wpAnyH_ready (rs := [5, 6, 7]) (by kernel_rfl) (by simp) ?_
        refine AllReadyH.cons (o := { dst := some 14, op := Op.call { callee := Callee.value (Operand.func 24), args := #[Operand.tmp 13], argTypes := #[22] }, type := 36, pos := "fields.go:373", after := #[{ on := 4, ground := Ground.data }, { on := 2, ground := Ground.chain }], guard := none }) rfl (fun K hK => ?_) (AllReadyH.cons (o := { dst := some 5, op := Op.alloc 36, type := 0, pos := "fields.go:373", after := #[], guard := none }) rfl (fun K hK => ?_) (AllReadyH.cons (o := { dst := some 6, op := Op.alloc 36, type := 0, pos := "fields.go:373", after := #[], guard := none }) rfl (fun K hK => ?_) AllReadyH.nil))
        · go_simp
          refine (rCtlR_is SL hvL (box (FL0.out.below N_c.out)) HC HNL).mono ?_; rintro e w_cd ⟨rfl, hb⟩
          have N_cd := box (N_c.out.trans (hb.mono N_c.out.size))
          clear hb
          go_wp2_with fail
          refine hK.out _ _ ⟨⟨(N_cd.out.cell (cell_lt q3)).trans q3, (N_cd.out.cell (cell_lt r3)).trans r3⟩, N_cd⟩ (fun hHeld => ?_)
          clear hK K
          try simp only [Act.put, List.setIfInBounds_toArray, List.set_cons_zero, List.set_cons_succ]
          refine wpAnyH_ready (rs := [6, 7]) (by kernel_rfl) (by simp) ?_
          refine AllReadyH.cons (o := { dst := some 5, op := Op.alloc 36, type := 0, pos := "fields.go:373", after := #[], guard := none }) rfl (fun K hK => ?_) (AllReadyH.cons (o := { dst := some 6, op := Op.alloc 36, type := 0, pos := "fields.go:373", after := #[], guard := none }) rfl (fun K hK => ?_) AllReadyH.nil)
          · refine step_alloc24 _ rfl rfl ?_
            intro w_cda hZ hb
            have N_cda := box (N_cd.out.trans (hb.mono N_cd.out.size))
            have Za_cda := box hZ
            clear hZ hb
            refine hK.out _ _ ⟨⟨(N_cda.out.cell (cell_lt q3)).trans q3, (N_cda.out.cell (cell_lt r3)).trans r3⟩, N_cda⟩ (fun hHeld => ?_)
            clear hK K
            try simp only [Act.put, List.setIfInBounds_toArray, List.set_cons_zero, List.set_cons_succ]
            refine wpAnyH_ready (rs := [7]) (by kernel_rfl) (by simp) ?_
            refine AllReadyH.cons (o := { dst := some 6, op := Op.alloc 36, type := 0, pos := "fields.go:373", after := #[], guard := none }) rfl (fun K hK => ?_) AllReadyH.nil
            refine step_alloc24 _ rfl rfl ?_
            intro w_cdab hZ hb
            have N_cdab := box (N_cda.out.trans (hb.mono N_cda.out.size))
            have Zb_cdab := box hZ
            have Za_cdab := box (Za_cda.out.next hb)
            have ne_cdab := box (show w_cd.heap.size ≠ w_cda.heap.size from by have := Za_cda.out.lt; omega)
            clear hZ hb
            refine hK.out _ _ ⟨⟨(N_cdab.out.cell (cell_lt q3)).trans q3, (N_cdab.out.cell (cell_lt r3)).trans r3⟩, N_cdab⟩ (fun hHeld => ?_)
            clear hK K
            try simp only [Act.put, List.setIfInBounds_toArray, List.set_cons_zero, List.set_cons_succ]
            refine wpAnyH_ready (rs := [8]) (by kernel_rfl) (by simp) ?_
            refine AllReadyH.cons (o := { dst := none, op := Op.store 36 (Operand.tmp 5) (Operand.tmp 11), type := 0, pos := "fields.go:373", after := #[{ on := 6, ground := Ground.data }, { on := 2, ground := Ground.data }, { on := 5, ground := Ground.chain }, { on := 0, ground := Ground.phase }, { on := 1, ground := Ground.phase }, { on := 2, ground := Ground.phase }, { on := 3, ground := Ground.textOnly Departure.lateStores }, { on := 4, ground := Ground.textOnly Departure.lateStores }, { on := 5, ground := Ground.textOnly Departure.lateStoresUnsure }, { on := 6, ground := Ground.phase }, { on := 7, ground := Ground.phase }], guard := none }) rfl (fun K hK => ?_) AllReadyH.nil
            refine step_store24 _ rfl (.tmp 5) (.tmp 11) rfl (w_cd.heap.size) ct0 ⟨dns, d1, d2, d3, d4, d5, d6, d7, d8, d9, d10⟩ rfl rfl Za_cdab.out ?_
            intro v8 w8 hC8 hO8
            have N8 := box (N_cdab.out.trans (hO8.below N_cd.out.size N_cdab.out.size))
            have Z8 := box (Zb_cdab.out.only hO8 ne_cdab.out.symm)
            have C8 := box hC8
            clear hC8 hO8
            refine hK.out _ _ ⟨⟨(N8.out.cell (cell_lt q3)).trans q3, (N8.out.cell (cell_lt r3)).trans r3⟩, N8⟩ (fun hHeld => ?_)
            clear hK K
            try simp only [Act.put, List.setIfInBounds_toArray, List.set_cons_zero, List.set_cons_succ]
            refine wpAnyH_ready (rs := [9]) (by kernel_rfl) (by simp) ?_
            refine AllReadyH.cons (o := { dst := none, op := Op.store 36 (Operand.tmp 6) (Operand.tmp 14), type := 0, pos := "fields.go:373", after := #[{ on := 7, ground := Ground.data }, { on := 5, ground := Ground.data }, { on := 8, ground := Ground.chain }, { on := 0, ground := Ground.phase }, { on := 1, ground := Ground.phase }, { on := 2, ground := Ground.phase }, { on := 3, ground := Ground.phase }, { on := 4, ground := Ground.phase }, { on := 5, ground := Ground.phase }, { on := 6, ground := Ground.phase }, { on := 7, ground := Ground.phase }, { on := 8, ground := Ground.phase }], guard := none }) rfl (fun K hK => ?_) AllReadyH.nil
            refine step_store24 _ rfl (.tmp 6) (.tmp 14) rfl (w_cda.heap.size) ct0 ⟨cns, cnc, cmr, cpr, cpv, cpb, coc, cma, csm, cmf, cms⟩ rfl rfl Z8.out ?_
            intro v9 w9 hC9 hO9
            have N9 := box (N8.out.trans (hO9.below N_cda.out.size N8.out.size))
            have D9 := box (C8.out.only hO9 ne_cdab.out)
            have C9 := box hC9
            clear hC9 hO9
            refine hK.out _ _ ⟨⟨(N9.out.cell (cell_lt q3)).trans q3, (N9.out.cell (cell_lt r3)).trans r3⟩, N9⟩ (fun hHeld => ?_)
            clear hK K
            try simp only [Act.put, List.setIfInBounds_toArray, List.set_cons_zero, List.set_cons_succ]
            refine wpAnyH_done (by kernel_rfl) ?_ _
            clear hHeld
            go_wp2
            go_meet
            case rel => exact ⟨_, _, rfl, rfl, D9, C9, N9⟩
          · refine step_alloc24 _ rfl rfl ?_
            intro w_cdb hZ hb
            have N_cdb := box (N_cd.out.trans (hb.mono N_cd.out.size))
            have Zb_cdb := box hZ
            clear hZ hb
            refine hK.out _ _ ⟨⟨(N_cdb.out.cell (cell_lt q3)).trans q3, (N_cdb.out.cell (cell_lt r3)).trans r3⟩, N_cdb⟩ (fun hHeld => ?_)
            clear hK K
            try simp only [Act.put, List.setIfInBounds_toArray, List.set_cons_zero, List.set_cons_succ]
            refine wpAnyH_ready (rs := [6]) (by kernel_rfl) (by simp) ?_
            refine AllReadyH.cons (o := { dst := some 5, op := Op.alloc 36, type := 0, pos := "fields.go:373", after := #[], guard := none }) rfl (fun K hK => ?_) AllReadyH.nil
            refine step_alloc24 _ rfl rfl ?_
            intro w_cdba hZ hb
            have N_cdba := box (N_cdb.out.trans (hb.mono N_cdb.out.size))
            have Za_cdba := box hZ
            have Zb_cdba := box (Zb_cdb.out.next hb)
            have ne_cdba := box (show w_cdb.heap.size ≠ w_cd.heap.size from by have := Zb_cdb.out.lt; omega)
            clear hZ hb
            refine hK.out _ _ ⟨⟨(N_cdba.out.cell (cell_lt q3)).trans q3, (N_cdba.out.cell (cell_lt r3)).trans r3⟩, N_cdba⟩ (fun hHeld => ?_)
            clear hK K
            try simp only [Act.put, List.setIfInBounds_toArray, List.set_cons_zero, List.set_cons_succ]
            refine wpAnyH_ready (rs := [8]) (by kernel_rfl) (by simp) ?_
            refine AllReadyH.cons (o := { dst := none, op := Op.store 36 (Operand.tmp 5) (Operand.tmp 11), type := 0, pos := "fields.go:373", after := #[{ on := 6, ground := Ground.data }, { on := 2, ground := Ground.data }, { on := 5, ground := Ground.chain }, { on := 0, ground := Ground.phase }, { on := 1, ground := Ground.phase }, { on := 2, ground := Ground.phase }, { on := 3, ground := Ground.textOnly Departure.lateStores }, { on := 4, ground := Ground.textOnly Departure.lateStores }, { on := 5, ground := Ground.textOnly Departure.lateStoresUnsure }, { on := 6, ground := Ground.phase }, { on := 7, ground := Ground.phase }], guard := none }) rfl (fun K hK => ?_) AllReadyH.nil
            refine step_store24 _ rfl (.tmp 5) (.tmp 11) rfl (w_cdb.heap.size) ct0 ⟨dns, d1, d2, d3, d4, d5, d6, d7, d8, d9, d10⟩ rfl rfl Za_cdba.out ?_
            intro v8 w8 hC8 hO8
            have N8 := box (N_cdba.out.trans (hO8.below N_cdb.out.size N_cdba.out.size))
            have Z8 := box (Zb_cdba.out.only hO8 ne_cdba.out.symm)
            have C8 := box hC8
            clear hC8 hO8
            refine hK.out _ _ ⟨⟨(N8.out.cell (cell_lt q3)).trans q3, (N8.out.cell (cell_lt r3)).trans r3⟩, N8⟩ (fun hHeld => ?_)
            clear hK K
            try simp only [Act.put, List.setIfInBounds_toArray, List.set_cons_zero, List.set_cons_succ]
            refine wpAnyH_ready (rs := [9]) (by kernel_rfl) (by simp) ?_
            refine AllReadyH.cons (o := { dst := none, op := Op.store 36 (Operand.tmp 6) (Operand.tmp 14), type := 0, pos := "fields.go:373", after := #[{ on := 7, ground := Ground.data }, { on := 5, ground := Ground.data }, { on := 8, ground := Ground.chain }, { on := 0, ground := Ground.phase }, { on := 1, ground := Ground.phase }, { on := 2, ground := Ground.phase }, { on := 3, ground := Ground.phase }, { on := 4, ground := Ground.phase }, { on := 5, ground := Ground.phase }, { on := 6, ground := Ground.phase }, { on := 7, ground := Ground.phase }, { on := 8, ground := Ground.phase }], guard := none }) rfl (fun K hK => ?_) AllReadyH.nil
            refine step_store24 _ rfl (.tmp 6) (.tmp 14) rfl (w_cd.heap.size) ct0 ⟨cns, cnc, cmr, cpr, cpv, cpb, coc, cma, csm, cmf, cms⟩ rfl rfl Z8.out ?_
            intro v9 w9 hC9 hO9
            have N9 := box (N8.out.trans (hO9.below N_cd.out.size N8.out.size))
            have D9 := box (C8.out.only hO9 ne_cdba.out)
            have C9 := box hC9
            clear hC9 hO9
            refine hK.out _ _ ⟨⟨(N9.out.cell (cell_lt q3)).trans q3, (N9.out.cell (cell_lt r3)).trans r3⟩, N9⟩ (fun hHeld => ?_)
            clear hK K
            try simp only [Act.put, List.setIfInBounds_toArray, List.set_cons_zero, List.set_cons_succ]
            refine wpAnyH_done (by kernel_rfl) ?_ _
            clear hHeld
            go_wp2
            go_meet
            case rel => exact ⟨_, _, rfl, rfl, D9, C9, N9⟩
        · refine step_alloc24 _ rfl rfl ?_
          intro w_ca hZ hb
          have N_ca := box (N_c.out.trans (hb.mono N_c.out.size))
          have Za_ca := box hZ
          clear hZ hb
          refine hK.out _ _ ⟨⟨(N_ca.out.cell (cell_lt q3)).trans q3, (N_ca.out.cell (cell_lt r3)).trans r3⟩, N_ca⟩ (fun hHeld => ?_)
          clear hK K
          try simp only [Act.put, List.setIfInBounds_toArray, List.set_cons_zero, List.set_cons_succ]
          refine wpAnyH_ready (rs := [5, 7]) (by kernel_rfl) (by simp) ?_
          refine AllReadyH.cons (o := { dst := some 14, op := Op.call { callee := Callee.value (Operand.func 24), args := #[Operand.tmp 13], argTypes := #[22] }, type := 36, pos := "fields.go:373", after := #[{ on := 4, ground := Ground.data }, { on := 2, ground := Ground.chain }], guard := none }) rfl (fun K hK => ?_) (AllReadyH.cons (o := { dst := some 6, op := Op.alloc 36, type := 0, pos := "fields.go:373", after := #[], guard := none }) rfl (fun K hK => ?_) AllReadyH.nil)
          · go_simp
            refine (rCtlR_is SL hvL (box (FL0.out.below N_ca.out)) HC HNL).mono ?_; rintro e w_cad ⟨rfl, hb⟩
            have N_cad := box (N_ca.out.trans (hb.mono N_ca.out.size))
            have Za_cad := box (Za_ca.out.next hb)
            clear hb
            go_wp2_with fail
            refine hK.out _ _ ⟨⟨(N_cad.out.cell (cell_lt q3)).trans q3, (N_cad.out.cell (cell_lt r3)).trans r3⟩, N_cad⟩ (fun hHeld => ?_)
            clear hK K
            try simp only [Act.put, List.setIfInBounds_toArray, List.set_cons_zero, List.set_cons_succ]
            refine wpAnyH_ready (rs := [7]) (by kernel_rfl) (by simp) ?_
            refine AllReadyH.cons (o := { dst := some 6, op := Op.alloc 36, type := 0, pos := "fields.go:373", after := #[], guard := none }) rfl (fun K hK => ?_) AllReadyH.nil
            refine step_alloc24 _ rfl rfl ?_
            intro w_cadb hZ hb
            have N_cadb := box (N_cad.out.trans (hb.mono N_cad.out.size))
            have Zb_cadb := box hZ
            have Za_cadb := box (Za_cad.out.next hb)
            have ne_cadb := box (show w_c.heap.size ≠ w_cad.heap.size from by have := Za_cad.out.lt; omega)
            clear hZ hb
            refine hK.out _ _ ⟨⟨(N_cadb.out.cell (cell_lt q3)).trans q3, (N_cadb.out.cell (cell_lt r3)).trans r3⟩, N_cadb⟩ (fun hHeld => ?_)
            clear hK K
            try simp only [Act.put, List.setIfInBounds_toArray, List.set_cons_zero, List.set_cons_succ]
            refine wpAnyH_ready (rs := [8]) (by kernel_rfl) (by simp) ?_
            refine AllReadyH.cons (o := { dst := none, op := Op.store 36 (Operand.tmp 5) (Operand.tmp 11), type := 0, pos := "fields.go:373", after := #[{ on := 6, ground := Ground.data }, { on := 2, ground := Ground.data }, { on := 5, ground := Ground.chain }, { on := 0, ground := Ground.phase }, { on := 1, ground := Ground.phase }, { on := 2, ground := Ground.phase }, { on := 3, ground := Ground.textOnly Departure.lateStores }, { on := 4, ground := Ground.textOnly Departure.lateStores }, { on := 5, ground := Ground.textOnly Departure.lateStoresUnsure }, { on := 6, ground := Ground.phase }, { on := 7, ground := Ground.phase }], guard := none }) rfl (fun K hK => ?_) AllReadyH.nil
            refine step_store24 _ rfl (.tmp 5) (.tmp 11) rfl (w_c.heap.size) ct0 ⟨dns, d1, d2, d3, d4, d5, d6, d7, d8, d9, d10⟩ rfl rfl Za_cadb.out ?_
            intro v8 w8 hC8 hO8
            have N8 := box (N_cadb.out.trans (hO8.below N_c.out.size N_cadb.out.size))
            have Z8 := box (Zb_cadb.out.only hO8 ne_cadb.out.symm)
            have C8 := box hC8
            clear hC8 hO8
            refine hK.out _ _ ⟨⟨(N8.out.cell (cell_lt q3)).trans q3, (N8.out.cell (cell_lt r3)).trans r3⟩, N8⟩ (fun hHeld => ?_)
            clear hK K
            try simp only [Act.put, List.setIfInBounds_toArray, List.set_cons_zero, List.set_cons_succ]
            refine wpAnyH_ready (rs := [9]) (by kernel_rfl) (by simp) ?_
            refine AllReadyH.cons (o := { dst := none, op := Op.store 36 (Operand.tmp 6) (Operand.tmp 14), type := 0, pos := "fields.go:373", after := #[{ on := 7, ground := Ground.data }, { on := 5, ground := Ground.data }, { on := 8, ground := Ground.chain }, { on := 0, ground := Ground.phase }, { on := 1, ground := Ground.phase }, { on := 2, ground := Ground.phase }, { on := 3, ground := Ground.phase }, { on := 4, ground := Ground.phase }, { on := 5, ground := Ground.phase }, { on := 6, ground := Ground.phase }, { on := 7, ground := Ground.phase }, { on := 8, ground := Ground.phase }], guard := none }) rfl (fun K hK => ?_) AllReadyH.nil
            refine step_store24 _ rfl (.tmp 6) (.tmp 14) rfl (w_cad.heap.size) ct0 ⟨cns, cnc, cmr, cpr, cpv, cpb, coc, cma, csm, cmf, cms⟩ rfl rfl Z8.out ?_
            intro v9 w9 hC9 hO9
            have N9 := box (N8.out.trans (hO9.below N_cad.out.size N8.out.size))
            have D9 := box (C8.out.only hO9 ne_cadb.out)
            have C9 := box hC9
            clear hC9 hO9
            refine hK.out _ _ ⟨⟨(N9.out.cell (cell_lt q3)).trans q3, (N9.out.cell (cell_lt r3)).trans r3⟩, N9⟩ (fun hHeld => ?_)
            clear hK K
            try simp only [Act.put, List.setIfInBounds_toArray, List.set_cons_zero, List.set_cons_succ]
            refine wpAnyH_done (by kernel_rfl) ?_ _
            clear hHeld
            go_wp2
            go_meet
            case rel => exact ⟨_, _, rfl, rfl, D9, C9, N9⟩
          · refine step_alloc24 _ rfl rfl ?_
            intro w_cab hZ hb
            have N_cab := box (N_ca.out.trans (hb.mono N_ca.out.size))
            have Zb_cab := box hZ
            have Za_cab := box (Za_ca.out.next hb)
            have ne_cab := box (show w_c.heap.size ≠ w_ca.heap.size from by have := Za_ca.out.lt; omega)
            clear hZ hb
            refine hK.out _ _ ⟨⟨(N_cab.out.cell (cell_lt q3)).trans q3, (N_cab.out.cell (cell_lt r3)).trans r3⟩, N_cab⟩ (fun hHeld => ?_)
            clear hK K
            try simp only [Act.put, List.setIfInBounds_toArray, List.set_cons_zero, List.set_cons_succ]
            refine wpAnyH_ready (rs := [5]) (by kernel_rfl) (by simp) ?_
            refine AllReadyH.cons (o := { dst := some 14, op := Op.call { callee := Callee.value (Operand.func 24), args := #[Operand.tmp 13], argTypes := #[22] }, type := 36, pos := "fields.go:373", after := #[{ on := 4, ground := Ground.data }, { on := 2, ground := Ground.chain }], guard := none }) rfl (fun K hK => ?_) AllReadyH.nil
            go_simp
            refine (rCtlR_is SL hvL (box (FL0.out.below N_cab.out)) HC HNL).mono ?_; rintro e w_cabd ⟨rfl, hb⟩
            have N_cabd := box (N_cab.out.trans (hb.mono N_cab.out.size))
            have Za_cabd := box (Za_cab.out.next hb)
            have Zb_cabd := box (Zb_cab.out.next hb)
            clear hb
            go_wp2_with fail
            refine hK.out _ _ ⟨⟨(N_cabd.out.cell (cell_lt q3)).trans q3, (N_cabd.out.cell (cell_lt r3)).trans r3⟩, N_cabd⟩ (fun hHeld => ?_)
            clear hK K
            try simp only [Act.put, List.setIfInBounds_toArray, List.set_cons_zero, List.set_cons_succ]
            refine wpAnyH_ready (rs := [8]) (by kernel_rfl) (by simp) ?_
            refine AllReadyH.cons (o := { dst := none, op := Op.store 36 (Operand.tmp 5) (Operand.tmp 11), type := 0, pos := "fields.go:373", after := #[{ on := 6, ground := Ground.data }, { on := 2, ground := Ground.data }, { on := 5, ground := Ground.chain }, { on := 0, ground := Ground.phase }, { on := 1, ground := Ground.phase }, { on := 2, ground := Ground.phase }, { on := 3, ground := Ground.textOnly Departure.lateStores }, { on := 4, ground := Ground.textOnly Departure.lateStores }, { on := 5, ground := Ground.textOnly Departure.lateStoresUnsure }, { on := 6, ground := Ground.phase }, { on := 7, ground := Ground.phase }], guard := none }) rfl (fun K hK => ?_) AllReadyH.nil
            refine step_store24 _ rfl (.tmp 5) (.tmp 11) rfl (w_c.heap.size) ct0 ⟨dns, d1, d2, d3, d4, d5, d6, d7, d8, d9, d10⟩ rfl rfl Za_cabd.out ?_
            intro v8 w8 hC8 hO8
            have N8 := box (N_cabd.out.trans (hO8.below N_c.out.size N_cabd.out.size))
            have Z8 := box (Zb_cabd.out.only hO8 ne_cab.out.symm)
            have C8 := box hC8
            clear hC8 hO8
            refine hK.out _ _ ⟨⟨(N8.out.cell (cell_lt q3)).trans q3, (N8.out.cell (cell_lt r3)).trans r3⟩, N8⟩ (fun hHeld => ?_)
            clear hK K
            try simp only [Act.put, List.setIfInBounds_toArray, List.set_cons_zero, List.set_cons_succ]
            refine wpAnyH_ready (rs := [9]) (by kernel_rfl) (by simp) ?_
            refine AllReadyH.cons (o := { dst := none, op := Op.store 36 (Operand.tmp 6) (Operand.tmp 14), type := 0, pos := "fields.go:373", after := #[{ on := 7, ground := Ground.data }, { on := 5, ground := Ground.data }, { on := 8, ground := Ground.chain }, { on := 0, ground := Ground.phase }, { on := 1, ground := Ground.phase }, { on := 2, ground := Ground.phase }, { on := 3, ground := Ground.phase }, { on := 4, ground := Ground.phase }, { on := 5, ground := Ground.phase }, { on := 6, ground := Ground.phase }, { on := 7, ground := Ground.phase }, { on := 8, ground := Ground.phase }], guard := none }) rfl (fun K hK => ?_) AllReadyH.nil
            refine step_store24 _ rfl (.tmp 6) (.tmp 14) rfl (w_ca.heap.size) ct0 ⟨cns, cnc, cmr, cpr, cpv, cpb, coc, cma, csm, cmf, cms⟩ rfl rfl Z8.out ?_
            intro v9 w9 hC9 hO9
            have N9 := box (N8.out.trans (hO9.below N_ca.out.size N8.out.size))
            have D9 := box (C8.out.only hO9 ne_cab.out)
            have C9 := box hC9
            clear hC9 hO9
            refine hK.out _ _ ⟨⟨(N9.out.cell (cell_lt q3)).trans q3, (N9.out.cell (cell_lt r3)).trans r3⟩, N9⟩ (fun hHeld => ?_)
            clear hK K
            try simp only [Act.put, List.setIfInBounds_toArray, List.set_cons_zero, List.set_cons_succ]
            refine wpAnyH_done (by kernel_rfl) ?_ _
            clear hHeld
            go_wp2
            go_meet
            case rel => exact ⟨_, _, rfl, rfl, D9, C9, N9⟩
        · refine step_alloc24 _ rfl rfl ?_
          intro w_cb hZ hb
          have N_cb := box (N_c.out.trans (hb.mono N_c.out.size))
          have Zb_cb := box hZ
          clear hZ hb
          refine hK.out _ _ ⟨⟨(N_cb.out.cell (cell_lt q3)).trans q3, (N_cb.out.cell (cell_lt r3)).trans r3⟩, N_cb⟩ (fun hHeld => ?_)
          clear hK K
          try simp only [Act.put, List.setIfInBounds_toArray, List.set_cons_zero, List.set_cons_succ]
          refine wpAnyH_ready (rs := [5, 6]) (by kernel_rfl) (by simp) ?_
          refine AllReadyH.cons (o := { dst := some 14, op := Op.call { callee := Callee.value (Operand.func 24), args := #[Operand.tmp 13], argTypes := #[22] }, type := 36, pos := "fields.go:373", after := #[{ on := 4, ground := Ground.data }, { on := 2, ground := Ground.chain }], guard := none }) rfl (fun K hK => ?_) (AllReadyH.cons (o := { dst := some 5, op := Op.alloc 36, type := 0, pos := "fields.go:373", after := #[], guard := none }) rfl (fun K hK => ?_) AllReadyH.nil)
          · go_simp
            refine (rCtlR_is SL hvL (box (FL0.out.below N_cb.out)) HC HNL).mono ?_; rintro e w_cbd ⟨rfl, hb⟩
            have N_cbd := box (N_cb.out.trans (hb.mono N_cb.out.size))
            have Zb_cbd := box (Zb_cb.out.next hb)
            clear hb
            go_wp2_with fail
            refine hK.out _ _ ⟨⟨(N_cbd.out.cell (cell_lt q3)).trans q3, (N_cbd.out.cell (cell_lt r3)).trans r3⟩, N_cbd⟩ (fun hHeld => ?_)
            clear hK K
            try simp only [Act.put, List.setIfInBounds_toArray, List.set_cons_zero, List.set_cons_succ]
            refine wpAnyH_ready (rs := [6]) (by kernel_rfl) (by simp) ?_
            refine AllReadyH.cons (o := { dst := some 5, op := Op.alloc 36, type := 0, pos := "fields.go:373", after := #[], guard := none }) rfl (fun K hK => ?_) AllReadyH.nil
            refine step_alloc24 _ rfl rfl ?_
            intro w_cbda hZ hb
            have N_cbda := box (N_cbd.out.trans (hb.mono N_cbd.out.size))
            have Za_cbda := box hZ
            have Zb_cbda := box (Zb_cbd.out.next hb)
            have ne_cbda := box (show w_cbd.heap.size ≠ w_c.heap.size from by have := Zb_cbd.out.lt; omega)
            clear hZ hb
            refine hK.out _ _ ⟨⟨(N_cbda.out.cell (cell_lt q3)).trans q3, (N_cbda.out.cell (cell_lt r3)).trans r3⟩, N_cbda⟩ (fun hHeld => ?_)
            clear hK K
            try simp only [Act.put, List.setIfInBounds_toArray, List.set_cons_zero, List.set_cons_succ]
            refine wpAnyH_ready (rs := [8]) (by kernel_rfl) (by simp) ?_
            refine AllReadyH.cons (o := { dst := none, op := Op.store 36 (Operand.tmp 5) (Operand.tmp 11), type := 0, pos := "fields.go:373", after := #[{ on := 6, ground := Ground.data }, { on := 2, ground := Ground.data }, { on := 5, ground := Ground.chain }, { on := 0, ground := Ground.phase }, { on := 1, ground := Ground.phase }, { on := 2, ground := Ground.phase }, { on := 3, ground := Ground.textOnly Departure.lateStores }, { on := 4, ground := Ground.textOnly Departure.lateStores }, { on := 5, ground := Ground.textOnly Departure.lateStoresUnsure }, { on := 6, ground := Ground.phase }, { on := 7, ground := Ground.phase }], guard := none }) rfl (fun K hK => ?_) AllReadyH.nil
            refine step_store24 _ rfl (.tmp 5) (.tmp 11) rfl (w_cbd.heap.size) ct0 ⟨dns, d1, d2, d3, d4, d5, d6, d7, d8, d9, d10⟩ rfl rfl Za_cbda.out ?_
            intro v8 w8 hC8 hO8
            have N8 := box (N_cbda.out.trans (hO8.below N_cbd.out.size N_cbda.out.size))
            have Z8 := box (Zb_cbda.out.only hO8 ne_cbda.out.symm)
            have C8 := box hC8
            clear hC8 hO8
            refine hK.out _ _ ⟨⟨(N8.out.cell (cell_lt q3)).trans q3, (N8.out.cell (cell_lt r3)).trans r3⟩, N8⟩ (fun hHeld => ?_)
            clear hK K
            try simp only [Act.put, List.setIfInBounds_toArray, List.set_cons_zero, List.set_cons_succ]
            refine wpAnyH_ready (rs := [9]) (by kernel_rfl) (by simp) ?_
            refine AllReadyH.cons (o := { dst := none, op := Op.store 36 (Operand.tmp 6) (Operand.tmp 14), type := 0, pos := "fields.go:373", after := #[{ on := 7, ground := Ground.data }, { on := 5, ground := Ground.data }, { on := 8, ground := Ground.chain }, { on := 0, ground := Ground.phase }, { on := 1, ground := Ground.phase }, { on := 2, ground := Ground.phase }, { on := 3, ground := Ground.phase }, { on := 4, ground := Ground.phase }, { on := 5, ground := Ground.phase }, { on := 6, ground := Ground.phase }, { on := 7, ground := Ground.phase }, { on := 8, ground := Ground.phase }], guard := none }) rfl (fun K hK => ?_) AllReadyH.nil
            refine step_store24 _ rfl (.tmp 6) (.tmp 14) rfl (w_c.heap.size) ct0 ⟨cns, cnc, cmr, cpr, cpv, cpb, coc, cma, csm, cmf, cms⟩ rfl rfl Z8.out ?_
            intro v9 w9 hC9 hO9
            have N9 := box (N8.out.trans (hO9.below N_c.out.size N8.out.size))
            have D9 := box (C8.out.only hO9 ne_cbda.out)
            have C9 := box hC9
            clear hC9 hO9
            refine hK.out _ _ ⟨⟨(N9.out.cell (cell_lt q3)).trans q3, (N9.out.cell (cell_lt r3)).trans r3⟩, N9⟩ (fun hHeld => ?_)
            clear hK K
            try simp only [Act.put, List.setIfInBounds_toArray, List.set_cons_zero, List.set_cons_succ]
            refine wpAnyH_done (by kernel_rfl) ?_ _
            clear hHeld
            go_wp2
            go_meet
            case rel => exact ⟨_, _, rfl, rfl, D9, C9, N9⟩
          · refine step_alloc24 _ rfl rfl ?_
            intro w_cba hZ hb
            have N_cba := box (N_cb.out.trans (hb.mono N_cb.out.size))
            have Za_cba := box hZ
            have Zb_cba := box (Zb_cb.out.next hb)
            have ne_cba := box (show w_cb.heap.size ≠ w_c.heap.size from by have := Zb_cb.out.lt; omega)
            clear hZ hb
            refine hK.out _ _ ⟨⟨(N_cba.out.cell (cell_lt q3)).trans q3, (N_cba.out.cell (cell_lt r3)).trans r3⟩, N_cba⟩ (fun hHeld => ?_)
            clear hK K
            try simp only [Act.put, List.setIfInBounds_toArray, List.set_cons_zero, List.set_cons_succ]
            refine wpAnyH_ready (rs := [5]) (by kernel_rfl) (by simp) ?_
            refine AllReadyH.cons (o := { dst := some 14, op := Op.call { callee := Callee.value (Operand.func 24), args := #[Operand.tmp 13], argTypes := #[22] }, type := 36, pos := "fields.go:373", after := #[{ on := 4, ground := Ground.data }, { on := 2, ground := Ground.chain }], guard := none }) rfl (fun K hK => ?_) AllReadyH.nil
            go_simp
            refine (rCtlR_is SL hvL (box (FL0.out.below N_cba.out)) HC HNL).mono ?_; rintro e w_cbad ⟨rfl, hb⟩
            have N_cbad := box (N_cba.out.trans (hb.mono N_cba.out.size))
            have Za_cbad := box (Za_cba.out.next hb)
            have Zb_cbad := box (Zb_cba.out.next hb)
            clear hb
            go_wp2_with fail
            refine hK.out _ _ ⟨⟨(N_cbad.out.cell (cell_lt q3)).trans q3, (N_cbad.out.cell (cell_lt r3)).trans r3⟩, N_cbad⟩ (fun hHeld => ?_)
            clear hK K
            try simp only [Act.put, List.setIfInBounds_toArray, List.set_cons_zero, List.set_cons_succ]
            refine wpAnyH_ready (rs := [8]) (by kernel_rfl) (by simp) ?_
            refine AllReadyH.cons (o := { dst := none, op := Op.store 36 (Operand.tmp 5) (Operand.tmp 11), type := 0, pos := "fields.go:373", after := #[{ on := 6, ground := Ground.data }, { on := 2, ground := Ground.data }, { on := 5, ground := Ground.chain }, { on := 0, ground := Ground.phase }, { on := 1, ground := Ground.phase }, { on := 2, ground := Ground.phase }, { on := 3, ground := Ground.textOnly Departure.lateStores }, { on := 4, ground := Ground.textOnly Departure.lateStores }, { on := 5, ground := Ground.textOnly Departure.lateStoresUnsure }, { on := 6, ground := Ground.phase }, { on := 7, ground := Ground.phase }], guard := none }) rfl (fun K hK => ?_) AllReadyH.nil
            refine step_store24 _ rfl (.tmp 5) (.tmp 11) rfl (w_cb.heap.size) ct0 ⟨dns, d1, d2, d3, d4, d5, d6, d7, d8, d9, d10⟩ rfl rfl Za_cbad.out ?_
            intro v8 w8 hC8 hO8
            have N8 := box (N_cbad.out.trans (hO8.below N_cb.out.size N_cbad.out.size))
            have Z8 := box (Zb_cbad.out.only hO8 ne_cba.out.symm)
            have C8 := box hC8
            clear hC8 hO8
            refine hK.out _ _ ⟨⟨(N8.out.cell (cell_lt q3)).trans q3, (N8.out.cell (cell_lt r3)).trans r3⟩, N8⟩ (fun hHeld => ?_)
            clear hK K
            try simp only [Act.put, List.setIfInBounds_toArray, List.set_cons_zero, List.set_cons_succ]
            refine wpAnyH_ready (rs := [9]) (by kernel_rfl) (by simp) ?_
            refine AllReadyH.cons (o := { dst := none, op := Op.store 36 (Operand.tmp 6) (Operand.tmp 14), type := 0, pos := "fields.go:373", after := #[{ on := 7, ground := Ground.data }, { on := 5, ground := Ground.data }, { on := 8, ground := Ground.chain }, { on := 0, ground := Ground.phase }, { on := 1, ground := Ground.phase }, { on := 2, ground := Ground.phase }, { on := 3, ground := Ground.phase }, { on := 4, ground := Ground.phase }, { on := 5, ground := Ground.phase }, { on := 6, ground := Ground.phase }, { on := 7, ground := Ground.phase }, { on := 8, ground := Ground.phase }], guard := none }) rfl (fun K hK => ?_) AllReadyH.nil
            refine step_store24 _ rfl (.tmp 6) (.tmp 14) rfl (w_c.heap.size) ct0 ⟨cns, cnc, cmr, cpr, cpv, cpb, coc, cma, csm, cmf, cms⟩ rfl rfl Z8.out ?_
            intro v9 w9 hC9 hO9
            have N9 := box (N8.out.trans (hO9.below N_c.out.size N8.out.size))
            have D9 := box (C8.out.only hO9 ne_cba.out)
            have C9 := box hC9
            clear hC9 hO9
            refine hK.out _ _ ⟨⟨(N9.out.cell (cell_lt q3)).trans q3, (N9.out.cell (cell_lt r3)).trans r3⟩, N9⟩ (fun hHeld => ?_)
            clear hK K
            try simp only [Act.put, List.setIfInBounds_toArray, List.set_cons_zero, List.set_cons_succ]
            refine wpAnyH_done (by kernel_rfl) ?_ _
            clear hHeld
            go_wp2
            go_meet
            case rel => exact ⟨_, _, rfl, rfl, D9, C9, N9⟩
      · refine step_alloc24 _ rfl rfl ?_
        intro w_a hZ hb
        have N_a := box (N_.out.trans (hb.mono N_.out.size))
        have Za_a := box hZ
        clear hZ hb
        refine hK.out _ _ ⟨⟨(N_a.out.cell (cell_lt q3)).trans q3, (N_a.out.cell (cell_lt r3)).trans r3⟩, N_a⟩ (fun hHeld => ?_)
        clear hK K
        try simp only [Act.put, List.setIfInBounds_toArray, List.set_cons_zero, List.set_cons_succ]
        refine wpAnyH_ready (rs := [2, 7]) (by kernel_rfl) (by simp) ?_
        refine AllReadyH.cons (o := { dst := some 11, op := Op.call { callee := Callee.value (Operand.func 23), args := #[Operand.tmp 10], argTypes := #[22] }, type := 36, pos := "fields.go:373", after := #[{ on := 1, ground := Ground.data }], guard := none }) rfl (fun K hK => ?_) (AllReadyH.cons (o := { dst := some 6, op := Op.alloc 36, type := 0, pos := "fields.go:373", after := #[], guard := none }) rfl (fun K hK => ?_) AllReadyH.nil)
        · go_simp
          refine (rCtlQ_is SQ hvQ (box (FQ0.out.below N_a.out)) HD HNQ).mono ?_; rintro e w_ac ⟨rfl, hb⟩
          have N_ac := box (N_a.out.trans (hb.mono N_a.out.size))
          have Za_ac := box (Za_a.out.next hb)
          clear hb
          go_wp2_with fail
          refine hK.out _ _ ⟨⟨(N_ac.out.cell (cell_lt q3)).trans q3, (N_ac.out.cell (cell_lt r3)).trans r3⟩, N_ac⟩ (fun hHeld => ?_)
          clear hK K
          try simp only [Act.put, List.setIfInBounds_toArray, List.set_cons_zero, List.set_cons_succ]
          refine wpAnyH_ready (rs := [5, 7]) (by kernel_rfl) (by simp) ?_
          refine AllReadyH.cons (o := { dst := some 14, op := Op.call { callee := Callee.value (Operand.func 24), args := #[Operand.tmp 13], argTypes := #[22] }, type := 36, pos := "fields.go:373", after := #[{ on := 4, ground := Ground.data }, { on := 2, ground := Ground.chain }], guard := none }) rfl (fun K hK => ?_) (AllReadyH.cons (o := { dst := some 6, op := Op.alloc 36, type := 0, pos := "fields.go:373", after := #[], guard := none }) rfl (fun K hK => ?_) AllReadyH.nil)
          · go_simp
            refine (rCtlR_is SL hvL (box (FL0.out.below N_ac.out)) HC HNL).mono ?_; rintro e w_acd ⟨rfl, hb⟩
            have N_acd := box (N_ac.out.trans (hb.mono N_ac.out.size))
            have Za_acd := box (Za_ac.out.next hb)
            clear hb
            go_wp2_with fail
            refine hK.out _ _ ⟨⟨(N_acd.out.cell (cell_lt q3)).trans q3, (N_acd.out.cell (cell_lt r3)).trans r3⟩, N_acd⟩ (fun hHeld => ?_)
            clear hK K
            try simp only [Act.put, List.setIfInBounds_toArray, List.set_cons_zero, List.set_cons_succ]
            refine wpAnyH_ready (rs := [7]) (by kernel_rfl) (by simp) ?_
            refine AllReadyH.cons (o := { dst := some 6, op := Op.alloc 36, type := 0, pos := "fields.go:373", after := #[], guard := none }) rfl (fun K hK => ?_) AllReadyH.nil
            refine step_alloc24 _ rfl rfl ?_
            intro w_acdb hZ hb
            have N_acdb := box (N_acd.out.trans (hb.mono N_acd.out.size))
            have Zb_acdb := box hZ
            have Za_acdb := box (Za_acd.out.next hb)
            have ne_acdb := box (show W0.drew.heap.size ≠ w_acd.heap.size from by have := Za_acd.out.lt; omega)
            clear hZ hb
            refine hK.out _ _ ⟨⟨(N_acdb.out.cell (cell_lt q3)).trans q3, (N_acdb.out.cell (cell_lt r3)).trans r3⟩, N_acdb⟩ (fun hHeld => ?_)
            clear hK K
            try simp only [Act.put, List.setIfInBounds_toArray, List.set_cons_zero, List.set_cons_succ]
            refine wpAnyH_ready (rs := [8]) (by kernel_rfl) (by simp) ?_
            refine AllReadyH.cons (o := { dst := none, op := Op.store 36 (Operand.tmp 5) (Operand.tmp 11), type := 0, pos := "fields.go:373", after := #[{ on := 6, ground := Ground.data }, { on := 2, ground := Ground.data }, { on := 5, ground := Ground.chain }, { on := 0, ground := Ground.phase }, { on := 1, ground := Ground.phase }, { on := 2, ground := Ground.phase }, { on := 3, ground := Ground.textOnly Departure.lateStores }, { on := 4, ground := Ground.textOnly Departure.lateStores }, { on := 5, ground := Ground.textOnly Departure.lateStoresUnsure }, { on := 6, ground := Ground.phase }, { on := 7, ground := Ground.phase }], guard := none }) rfl (fun K hK => ?_) AllReadyH.nil
            refine step_store24 _ rfl (.tmp 5) (.tmp 11) rfl (W0.drew.heap.size) ct0 ⟨dns, d1, d2, d3, d4, d5, d6, d7, d8, d9, d10⟩ rfl rfl Za_acdb.out ?_
            intro v8 w8 hC8 hO8
            have N8 := box (N_acdb.out.trans (hO8.below N_.out.size N_acdb.out.size))
            have Z8 := box (Zb_acdb.out.only hO8 ne_acdb.out.symm)
            have C8 := box hC8
            clear hC8 hO8
            refine hK.out _ _ ⟨⟨(N8.out.cell (cell_lt q3)).trans q3, (N8.out.cell (cell_lt r3)).trans r3⟩, N8⟩ (fun hHeld => ?_)
            clear hK K
            try simp only [Act.put, List.setIfInBounds_toArray, List.set_cons_zero, List.set_cons_succ]
            refine wpAnyH_ready (rs := [9]) (by kernel_rfl) (by simp) ?_
            refine AllReadyH.cons (o := { dst := none, op := Op.store 36 (Operand.tmp 6) (Operand.tmp 14), type := 0, pos := "fields.go:373", after := #[{ on := 7, ground := Ground.data }, { on := 5, ground := Ground.data }, { on := 8, ground := Ground.chain }, { on := 0, ground := Ground.phase }, { on := 1, ground := Ground.phase }, { on := 2, ground := Ground.phase }, { on := 3, ground := Ground.phase }, { on := 4, ground := Ground.phase }, { on := 5, ground := Ground.phase }, { on := 6, ground := Ground.phase }, { on := 7, ground := Ground.phase }, { on := 8, ground := Ground.phase }], guard := none }) rfl (fun K hK => ?_) AllReadyH.nil
            refine step_store24 _ rfl (.tmp 6) (.tmp 14) rfl (w_acd.heap.size) ct0 ⟨cns, cnc, cmr, cpr, cpv, cpb, coc, cma, csm, cmf, cms⟩ rfl rfl Z8.out ?_
            intro v9 w9 hC9 hO9
            have N9 := box (N8.out.trans (hO9.below N_acd.out.size N8.out.size))
            have D9 := box (C8.out.only hO9 ne_acdb.out)
            have C9 := box hC9
            clear hC9 hO9
            refine hK.out _ _ ⟨⟨(N9.out.cell (cell_lt q3)).trans q3, (N9.out.cell (cell_lt r3)).trans r3⟩, N9⟩ (fun hHeld => ?_)
            clear hK K
            try simp only [Act.put, List.setIfInBounds_toArray, List.set_cons_zero, List.set_cons_succ]
            refine wpAnyH_done (by kernel_rfl) ?_ _
            clear hHeld
            go_wp2
            go_meet
            case rel => exact ⟨_, _, rfl, rfl, D9, C9, N9⟩
          · refine step_alloc24 _ rfl rfl ?_
            intro w_acb hZ hb
            have N_acb := box (N_ac.out.trans (hb.mono N_ac.out.size))
            have Zb_acb := box hZ
            have Za_acb := box (Za_ac.out.next hb)
            have ne_acb := box (show W0.drew.heap.size ≠ w_ac.heap.size from by have := Za_ac.out.lt; omega)
            clear hZ hb
            refine hK.out _ _ ⟨⟨(N_acb.out.cell (cell_lt q3)).trans q3, (N_acb.out.cell (cell_lt r3)).trans r3⟩, N_acb⟩ (fun hHeld => ?_)
            clear hK K
            try simp only [Act.put, List.setIfInBounds_toArray, List.set_cons_zero, List.set_cons_succ]
            refine wpAnyH_ready (rs := [5]) (by kernel_rfl) (by simp) ?_
            refine AllReadyH.cons (o := { dst := some 14, op := Op.call { callee := Callee.value (Operand.func 24), args := #[Operand.tmp 13], argTypes := #[22] }, type := 36, pos := "fields.go:373", after := #[{ on := 4, ground := Ground.data }, { on := 2, ground := Ground.chain }], guard := none }) rfl (fun K hK => ?_) AllReadyH.nil
            go_simp
            refine (rCtlR_is SL hvL (box (FL0.out.below N_acb.out)) HC HNL).mono ?_; rintro e w_acbd ⟨rfl, hb⟩
            have N_acbd := box (N_acb.out.trans (hb.mono N_acb.out.size))
            have Za_acbd := box (Za_acb.out.next hb)
            have Zb_acbd := box (Zb_acb.out.next hb)
            clear hb
            go_wp2_with fail
            refine hK.out _ _ ⟨⟨(N_acbd.out.cell (cell_lt q3)).trans q3, (N_acbd.out.cell (cell_lt r3)).trans r3⟩, N_acbd⟩ (fun hHeld => ?_)
            clear hK K
            try simp only [Act.put, List.setIfInBounds_toArray, List.set_cons_zero, List.set_cons_succ]
            refine wpAnyH_ready (rs := [8]) (by kernel_rfl) (by simp) ?_
            refine AllReadyH.cons (o := { dst := none, op := Op.store 36 (Operand.tmp 5) (Operand.tmp 11), type := 0, pos := "fields.go:373", after := #[{ on := 6, ground := Ground.data }, { on := 2, ground := Ground.data }, { on := 5, ground := Ground.chain }, { on := 0, ground := Ground.phase }, { on := 1, ground := Ground.phase }, { on := 2, ground := Ground.phase }, { on := 3, ground := Ground.textOnly Departure.lateStores }, { on := 4, ground := Ground.textOnly Departure.lateStores }, { on := 5, ground := Ground.textOnly Departure.lateStoresUnsure }, { on := 6, ground := Ground.phase }, { on := 7, ground := Ground.phase }], guard := none }) rfl (fun K hK => ?_) AllReadyH.nil
            refine step_store24 _ rfl (.tmp 5) (.tmp 11) rfl (W0.drew.heap.size) ct0 ⟨dns, d1, d2, d3, d4, d5, d6, d7, d8, d9, d10⟩ rfl rfl Za_acbd.out ?_
            intro v8 w8 hC8 hO8
            have N8 := box (N_acbd.out.trans (hO8.below N_.out.size N_acbd.out.size))
            have Z8 := box (Zb_acbd.out.only hO8 ne_acb.out.symm)
            have C8 := box hC8
            clear hC8 hO8
            refine hK.out _ _ ⟨⟨(N8.out.cell (cell_lt q3)).trans q3, (N8.out.cell (cell_lt r3)).trans r3⟩, N8⟩ (fun hHeld => ?_)
            clear hK K
            try simp only [Act.put, List.setIfInBounds_toArray, List.set_cons_zero, List.set_cons_succ]
            refine wpAnyH_ready (rs := [9]) (by kernel_rfl) (by simp) ?_
            refine AllReadyH.cons (o := { dst := none, op := Op.store 36 (Operand.tmp 6) (Operand.tmp 14), type := 0, pos := "fields.go:373", after := #[{ on := 7, ground := Ground.data }, { on := 5, ground := Ground.data }, { on := 8, ground := Ground.chain }, { on := 0, ground := Ground.phase }, { on := 1, ground := Ground.phase }, { on := 2, ground := Ground.phase }, { on := 3, ground := Ground.phase }, { on := 4, ground := Ground.phase }, { on := 5, ground := Ground.phase }, { on := 6, ground := Ground.phase }, { on := 7, ground := Ground.phase }, { on := 8, ground := Ground.phase }], guard := none }) rfl (fun K hK => ?_) AllReadyH.nil
            refine step_store24 _ rfl (.tmp 6) (.tmp 14) rfl (w_ac.heap.size) ct0 ⟨cns, cnc, cmr, cpr, cpv, cpb, coc, cma, csm, cmf, cms⟩ rfl rfl Z8.out ?_
            intro v9 w9 hC9 hO9
            have N9 := box (N8.out.trans (hO9.below N_ac.out.size N8.out.size))
            have D9 := box (C8.out.only hO9 ne_acb.out)
            have C9 := box hC9
            clear hC9 hO9
            refine hK.out _ _ ⟨⟨(N9.out.cell (cell_lt q3)).trans q3, (N9.out.cell (cell_lt r3)).trans r3⟩, N9⟩ (fun hHeld => ?_)
            clear hK K
            try simp only [Act.put, List.setIfInBounds_toArray, List.set_cons_zero, List.set_cons_succ]
            refine wpAnyH_done (by kernel_rfl) ?_ _
            clear hHeld
            go_wp2
            go_meet
            case rel => exact ⟨_, _, rfl, rfl, D9, C9, N9⟩
        · refine step_alloc24 _ rfl rfl ?_
          intro w_ab hZ hb
          have N_ab := box (N_a.out.trans (hb.mono N_a.out.size))
          have Zb_ab := box hZ
          have Za_ab := box (Za_a.out.next hb)
          have ne_ab := box (show W0.drew.heap.size ≠ w_a.heap.size from by have := Za_a.out.lt; omega)
          clear hZ hb
          refine hK.out _ _ ⟨⟨(N_ab.out.cell (cell_lt q3)).trans q3, (N_ab.out.cell (cell_lt r3)).trans r3⟩, N_ab⟩ (fun hHeld => ?_)
          clear hK K
          try simp only [Act.put, List.setIfInBounds_toArray, List.set_cons_zero, List.set_cons_succ]
          refine wpAnyH_ready (rs := [2]) (by kernel_rfl) (by simp) ?_
          refine AllReadyH.cons (o := { dst := some 11, op := Op.call { callee := Callee.value (Operand.func 23), args := #[Operand.tmp 10], argTypes := #[22] }, type := 36, pos := "fields.go:373", after := #[{ on := 1, ground := Ground.data }], guard := none }) rfl (fun K hK => ?_) AllReadyH.nil
          go_simp
          refine (rCtlQ_is SQ hvQ (box (FQ0.out.below N_ab.out)) HD HNQ).mono ?_; rintro e w_abc ⟨rfl, hb⟩
          have N_abc := box (N_ab.out.trans (hb.mono N_ab.out.size))
          have Za_abc := box (Za_ab.out.next hb)
          have Zb_abc := box (Zb_ab.out.next hb)
          clear hb
          go_wp2_with fail
          refine hK.out _ _ ⟨⟨(N_abc.out.cell (cell_lt q3)).trans q3, (N_abc.out.cell (cell_lt r3)).trans r3⟩, N_abc⟩ (fun hHeld => ?_)
          clear hK K
          try simp only [Act.put, List.setIfInBounds_toArray, List.set_cons_zero, List.set_cons_succ]
          refine wpAnyH_ready (rs := [5]) (by kernel_rfl) (by simp) ?_
          refine AllReadyH.cons (o := { dst := some 14, op := Op.call { callee := Callee.value (Operand.func 24), args := #[Operand.tmp 13], argTypes := #[22] }, type := 36, pos := "fields.go:373", after := #[{ on := 4, ground := Ground.data }, { on := 2, ground := Ground.chain }], guard := none }) rfl (fun K hK => ?_) AllReadyH.nil
          go_simp
          refine (rCtlR_is SL hvL (box (FL0.out.below N_abc.out)) HC HNL).mono ?_; rintro e w_abcd ⟨rfl, hb⟩
          have N_abcd := box (N_abc.out.trans (hb.mono N_abc.out.size))
          have Za_abcd := box (Za_abc.out.next hb)
          have Zb_abcd := box (Zb_abc.out.next hb)
          clear hb
          go_wp2_with fail
          refine hK.out _ _ ⟨⟨(N_abcd.out.cell (cell_lt q3)).trans q3, (N_abcd.out.cell (cell_lt r3)).trans r3⟩, N_abcd⟩ (fun hHeld => ?_)
          clear hK K
          try simp only [Act.put, List.setIfInBounds_toArray, List.set_cons_zero, List.set_cons_succ]
          refine wpAnyH_ready (rs := [8]) (by kernel_rfl) (by simp) ?_
          refine AllReadyH.cons (o := { dst := none, op := Op.store 36 (Operand.tmp 5) (Operand.tmp 11), type := 0, pos := "fields.go:373", after := #[{ on := 6, ground := Ground.data }, { on := 2, ground := Ground.data }, { on := 5, ground := Ground.chain }, { on := 0, ground := Ground.phase }, { on := 1, ground := Ground.phase }, { on := 2, ground := Ground.phase }, { on := 3, ground := Ground.textOnly Departure.lateStores }, { on := 4, ground := Ground.textOnly Departure.lateStores }, { on := 5, ground := Ground.textOnly Departure.lateStoresUnsure }, { on := 6, ground := Ground.phase }, { on := 7, ground := Ground.phase }], guard := none }) rfl (fun K hK => ?_) AllReadyH.nil
          refine step_store24 _ rfl (.tmp 5) (.tmp 11) rfl (W0.drew.heap.size) ct0 ⟨dns, d1, d2, d3, d4, d5, d6, d7, d8, d9, d10⟩ rfl rfl Za_abcd.out ?_
          intro v8 w8 hC8 hO8
          have N8 := box (N_abcd.out.trans (hO8.below N_.out.size N_abcd.out.size))
          have Z8 := box (Zb_abcd.out.only hO8 ne_ab.out.symm)
          have C8 := box hC8
          clear hC8 hO8
          refine hK.out _ _ ⟨⟨(N8.out.cell (cell_lt q3)).trans q3, (N8.out.cell (cell_lt r3)).trans r3⟩, N8⟩ (fun hHeld => ?_)
          clear hK K
          try simp only [Act.put, List.setIfInBounds_toArray, List.set_cons_zero, List.set_cons_succ]
          refine wpAnyH_ready (rs := [9]) (by kernel_rfl) (by simp) ?_
          refine AllReadyH.cons (o := { dst := none, op := Op.store 36 (Operand.tmp 6) (Operand.tmp 14), type := 0, pos := "fields.go:373", after := #[{ on := 7, ground := Ground.data }, { on := 5, ground := Ground.data }, { on := 8, ground := Ground.chain }, { on := 0, ground := Ground.phase }, { on := 1, ground := Ground.phase }, { on := 2, ground := Ground.phase }, { on := 3, ground := Ground.phase }, { on := 4, ground := Ground.phase }, { on := 5, ground := Ground.phase }, { on := 6, ground := Ground.phase }, { on := 7, ground := Ground.phase }, { on := 8, ground := Ground.phase }], guard := none }) rfl (fun K hK => ?_) AllReadyH.nil
          refine step_store24 _ rfl (.tmp 6) (.tmp 14) rfl (w_a.heap.size) ct0 ⟨cns, cnc, cmr, cpr, cpv, cpb, coc, cma, csm, cmf, cms⟩ rfl rfl Z8.out ?_
          intro v9 w9 hC9 hO9
          have N9 := box (N8.out.trans (hO9.below N_a.out.size N8.out.size))
          have D9 := box (C8.out.only hO9 ne_ab.out)
          have C9 := box hC9
          clear hC9 hO9
          refine hK.out _ _ ⟨⟨(N9.out.cell (cell_lt q3)).trans q3, (N9.out.cell (cell_lt r3)).trans r3⟩, N9⟩ (fun hHeld => ?_)
          clear hK K
          try simp only [Act.put, List.setIfInBounds_toArray, List.set_cons_zero, List.set_cons_succ]
          refine wpAnyH_done (by kernel_rfl) ?_ _
          clear hHeld
          go_wp2
          go_meet
          case rel => exact ⟨_, _, rfl, rfl, D9, C9, N9⟩
      · refine step_alloc24 _ rfl rfl ?_
        intro w_b hZ hb
        have N_b := box (N_.out.trans (hb.mono N_.out.size))
        have Zb_b := box hZ
        clear hZ hb
        refine hK.out _ _ ⟨⟨(N_b.out.cell (cell_lt q3)).trans q3, (N_b.out.cell (cell_lt r3)).trans r3⟩, N_b⟩ (fun hHeld => ?_)
        clear hK K
        try simp only [Act.put, List.setIfInBounds_toArray, List.set_cons_zero, List.set_cons_succ]
        refine wpAnyH_ready (rs := [2, 6]) (by kernel_rfl) (by simp) ?_
        refine AllReadyH.cons (o := { dst := some 11, op := Op.call { callee := Callee.value (Operand.func 23), args := #[Operand.tmp 10], argTypes := #[22] }, type := 36, pos := "fields.go:373", after := #[{ on := 1, ground := Ground.data }], guard := none }) rfl (fun K hK => ?_) (AllReadyH.cons (o := { dst := some 5, op := Op.alloc 36, type := 0, pos := "fields.go:373", after := #[], guard := none }) rfl (fun K hK => ?_) AllReadyH.nil)
        · go_simp
          refine (rCtlQ_is SQ hvQ (box (FQ0.out.below N_b.out)) HD HNQ).mono ?_; rintro e w_bc ⟨rfl, hb⟩
          have N_bc := box (N_b.out.trans (hb.mono N_b.out.size))
          have Zb_bc := box (Zb_b.out.next hb)
          clear hb
          go_wp2_with fail
          refine hK.out _ _ ⟨⟨(N_bc.out.cell (cell_lt q3)).trans q3, (N_bc.out.cell (cell_lt r3)).trans r3⟩, N_bc⟩ (fun hHeld => ?_)
          clear hK K
          try simp only [Act.put, List.setIfInBounds_toArray, List.set_cons_zero, List.set_cons_succ]
          refine wpAnyH_ready (rs := [5, 6]) (by kernel_rfl) (by simp) ?_
          refine AllReadyH.cons (o := { dst := some 14, op := Op.call { callee := Callee.value (Operand.func 24), args := #[Operand.tmp 13], argTypes := #[22] }, type := 36, pos := "fields.go:373", after := #[{ on := 4, ground := Ground.data }, { on := 2, ground := Ground.chain }], guard := none }) rfl (fun K hK => ?_) (AllReadyH.cons (o := { dst := some 5, op := Op.alloc 36, type := 0, pos := "fields.go:373", after := #[], guard := none }) rfl (fun K hK => ?_) AllReadyH.nil)
          · go_simp
            refine (rCtlR_is SL hvL (box (FL0.out.below N_bc.out)) HC HNL).mono ?_; rintro e w_bcd ⟨rfl, hb⟩
            have N_bcd := box (N_bc.out.trans (hb.mono N_bc.out.size))
            have Zb_bcd := box (Zb_bc.out.next hb)
            clear hb
            go_wp2_with fail
            refine hK.out _ _ ⟨⟨(N_bcd.out.cell (cell_lt q3)).trans q3, (N_bcd.out.cell (cell_lt r3)).trans r3⟩, N_bcd⟩ (fun hHeld => ?_)
            clear hK K
            try simp only [Act.put, List.setIfInBounds_toArray, List.set_cons_zero, List.set_cons_succ]
            refine wpAnyH_ready (rs := [6]) (by kernel_rfl) (by simp) ?_
            refine AllReadyH.cons (o := { dst := some 5, op := Op.alloc 36, type := 0, pos := "fields.go:373", after := #[], guard := none }) rfl (fun K hK => ?_) AllReadyH.nil
            refine step_alloc24 _ rfl rfl ?_
            intro w_bcda hZ hb
            have N_bcda := box (N_bcd.out.trans (hb.mono N_bcd.out.size))
            have Za_bcda := box hZ
            have Zb_bcda := box (Zb_bcd.out.next hb)
            have ne_bcda := box (show w_bcd.heap.size ≠ W0.drew.heap.size from by have := Zb_bcd.out.lt; omega)
            clear hZ hb
            refine hK.out _ _ ⟨⟨(N_bcda.out.cell (cell_lt q3)).trans q3, (N_bcda.out.cell (cell_lt r3)).trans r3⟩, N_bcda⟩ (fun hHeld => ?_)
            clear hK K
            try simp only [Act.put, List.setIfInBounds_toArray, List.set_cons_zero, List.set_cons_succ]
            refine wpAnyH_ready (rs := [8]) (by kernel_rfl) (by simp) ?_
            refine AllReadyH.cons (o := { dst := none, op := Op.store 36 (Operand.tmp 5) (Operand.tmp 11), type := 0, pos := "fields.go:373", after := #[{ on := 6, ground := Ground.data }, { on := 2, ground := Ground.data }, { on := 5, ground := Ground.chain }, { on := 0, ground := Ground.phase }, { on := 1, ground := Ground.phase }, { on := 2, ground := Ground.phase }, { on := 3, ground := Ground.textOnly Departure.lateStores }, { on := 4, ground := Ground.textOnly Departure.lateStores }, { on := 5, ground := Ground.textOnly Departure.lateStoresUnsure }, { on := 6, ground := Ground.phase }, { on := 7, ground := Ground.phase }], guard := none }) rfl (fun K hK => ?_) AllReadyH.nil
            refine step_store24 _ rfl (.tmp 5) (.tmp 11) rfl (w_bcd.heap.size) ct0 ⟨dns, d1, d2, d3, d4, d5, d6, d7, d8, d9, d10⟩ rfl rfl Za_bcda.out ?_
            intro v8 w8 hC8 hO8
            have N8 := box (N_bcda.out.trans (hO8.below N_bcd.out.size N_bcda.out.size))
            have Z8 := box (Zb_bcda.out.only hO8 ne_bcda.out.symm)
            have C8 := box hC8
            clear hC8 hO8
            refine hK.out _ _ ⟨⟨(N8.out.cell (cell_lt q3)).trans q3, (N8.out.cell (cell_lt r3)).trans r3⟩, N8⟩ (fun hHeld => ?_)
            clear hK K
            try simp only [Act.put, List.setIfInBounds_toArray, List.set_cons_zero, List.set_cons_succ]
            refine wpAnyH_ready (rs := [9]) (by kernel_rfl) (by simp) ?_
            refine AllReadyH.cons (o := { dst := none, op := Op.store 36 (Operand.tmp 6) (Operand.tmp 14), type := 0, pos := "fields.go:373", after := #[{ on := 7, ground := Ground.data }, { on := 5, ground := Ground.data }, { on := 8, ground := Ground.chain }, { on := 0, ground := Ground.phase }, { on := 1, ground := Ground.phase }, { on := 2, ground := Ground.phase }, { on := 3, ground := Ground.phase }, { on := 4, ground := Ground.phase }, { on := 5, ground := Ground.phase }, { on := 6, ground := Ground.phase }, { on := 7, ground := Ground.phase }, { on := 8, ground := Ground.phase }], guard := none }) rfl (fun K hK => ?_) AllReadyH.nil
            refine step_store24 _ rfl (.tmp 6) (.tmp 14) rfl (W0.drew.heap.size) ct0 ⟨cns, cnc, cmr, cpr, cpv, cpb, coc, cma, csm, cmf, cms⟩ rfl rfl Z8.out ?_
            intro v9 w9 hC9 hO9
            have N9 := box (N8.out.trans (hO9.below N_.out.size N8.out.size))
            have D9 := box (C8.out.only hO9 ne_bcda.out)
            have C9 := box hC9
            clear hC9 hO9
            refine hK.out _ _ ⟨⟨(N9.out.cell (cell_lt q3)).trans q3, (N9.out.cell (cell_lt r3)).trans r3⟩, N9⟩ (fun hHeld => ?_)
            clear hK K
            try simp only [Act.put, List.setIfInBounds_toArray, List.set_cons_zero, List.set_cons_succ]
            refine wpAnyH_done (by kernel_rfl) ?_ _
            clear hHeld
            go_wp2
            go_meet
            case rel => exact ⟨_, _, rfl, rfl, D9, C9, N9⟩
          · refine step_alloc24 _ rfl rfl ?_
            intro w_bca hZ hb
            have N_bca := box (N_bc.out.trans (hb.mono N_bc.out.size))
            have Za_bca := box hZ
            have Zb_bca := box (Zb_bc.out.next hb)
            have ne_bca := box (show w_bc.heap.size ≠ W0.drew.heap.size from by have := Zb_bc.out.lt; omega)
            clear hZ hb
            refine hK.out _ _ ⟨⟨(N_bca.out.cell (cell_lt q3)).trans q3, (N_bca.out.cell (cell_lt r3)).trans r3⟩, N_bca⟩ (fun hHeld => ?_)
            clear hK K
            try simp only [Act.put, List.setIfInBounds_toArray, List.set_cons_zero, List.set_cons_succ]
            refine wpAnyH_ready (rs := [5]) (by kernel_rfl) (by simp) ?_
            refine AllReadyH.cons (o := { dst := some 14, op := Op.call { callee := Callee.value (Operand.func 24), args := #[Operand.tmp 13], argTypes := #[22] }, type := 36, pos := "fields.go:373", after := #[{ on := 4, ground := Ground.data }, { on := 2, ground := Ground.chain }], guard := none }) rfl (fun K hK => ?_) AllReadyH.nil
            go_simp
            refine (rCtlR_is SL hvL (box (FL0.out.below N_bca.out)) HC HNL).mono ?_; rintro e w_bcad ⟨rfl, hb⟩
            have N_bcad := box (N_bca.out.trans (hb.mono N_bca.out.size))
            have Za_bcad := box (Za_bca.out.next hb)
            have Zb_bcad := box (Zb_bca.out.next hb)
            clear hb
            go_wp2_with fail
            refine hK.out _ _ ⟨⟨(N_bcad.out.cell (cell_lt q3)).trans q3, (N_bcad.out.cell (cell_lt r3)).trans r3⟩, N_bcad⟩ (fun hHeld => ?_)
            clear hK K
            try simp only [Act.put, List.setIfInBounds_toArray, List.set_cons_zero, List.set_cons_succ]
            refine wpAnyH_ready (rs := [8]) (by kernel_rfl) (by simp) ?_
            refine AllReadyH.cons (o := { dst := none, op := Op.store 36 (Operand.tmp 5) (Operand.tmp 11), type := 0, pos := "fields.go:373", after := #[{ on := 6, ground := Ground.data }, { on := 2, ground := Ground.data }, { on := 5, ground := Ground.chain }, { on := 0, ground := Ground.phase }, { on := 1, ground := Ground.phase }, { on := 2, ground := Ground.phase }, { on := 3, ground := Ground.textOnly Departure.lateStores }, { on := 4, ground := Ground.textOnly Departure.lateStores }, { on := 5, ground := Ground.textOnly Departure.lateStoresUnsure }, { on := 6, ground := Ground.phase }, { on := 7, ground := Ground.phase }], guard := none }) rfl (fun K hK => ?_) AllReadyH.nil
            refine step_store24 _ rfl (.tmp 5) (.tmp 11) rfl (w_bc.heap.size) ct0 ⟨dns, d1, d2, d3, d4, d5, d6, d7, d8, d9, d10⟩ rfl rfl Za_bcad.out ?_
            intro v8 w8 hC8 hO8
            have N8 := box (N_bcad.out.trans (hO8.below N_bc.out.size N_bcad.out.size))
            have Z8 := box (Zb_bcad.out.only hO8 ne_bca.out.symm)
            have C8 := box hC8
            clear hC8 hO8
            refine hK.out _ _ ⟨⟨(N8.out.cell (cell_lt q3)).trans q3, (N8.out.cell (cell_lt r3)).trans r3⟩, N8⟩ (fun hHeld => ?_)
            clear hK K
            try simp only [Act.put, List.setIfInBounds_toArray, List.set_cons_zero, List.set_cons_succ]
            refine wpAnyH_ready (rs := [9]) (by kernel_rfl) (by simp) ?_
            refine AllReadyH.cons (o := { dst := none, op := Op.store 36 (Operand.tmp 6) (Operand.tmp 14), type := 0, pos := "fields.go:373", after := #[{ on := 7, ground := Ground.data }, { on := 5, ground := Ground.data }, { on := 8, ground := Ground.chain }, { on := 0, ground := Ground.phase }, { on := 1, ground := Ground.phase }, { on := 2, ground := Ground.phase }, { on := 3, ground := Ground.phase }, { on := 4, ground := Ground.phase }, { on := 5, ground := Ground.phase }, { on := 6, ground := Ground.phase }, { on := 7, ground := Ground.phase }, { on := 8, ground := Ground.phase }], guard := none }) rfl (fun K hK => ?_) AllReadyH.nil
            refine step_store24 _ rfl (.tmp 6) (.tmp 14) rfl (W0.drew.heap.size) ct0 ⟨cns, cnc, cmr, cpr, cpv, cpb, coc, cma, csm, cmf, cms⟩ rfl rfl Z8.out ?_
            intro v9 w9 hC9 hO9
            have N9 := box (N8.out.trans (hO9.below N_.out.size N8.out.size))
            have D9 := box (C8.out.only hO9 ne_bca.out)
            have C9 := box hC9
            clear hC9 hO9
            refine hK.out _ _ ⟨⟨(N9.out.cell (cell_lt q3)).trans q3, (N9.out.cell (cell_lt r3)).trans r3⟩, N9⟩ (fun hHeld => ?_)
            clear hK K
            try simp only [Act.put, List.setIfInBounds_toArray, List.set_cons_zero, List.set_cons_succ]
            refine wpAnyH_done (by kernel_rfl) ?_ _
            clear hHeld
            go_wp2
            go_meet
            case rel => exact ⟨_, _, rfl, rfl, D9, C9, N9⟩
        · refine step_alloc24 _ rfl rfl ?_
          intro w_ba hZ hb
          have N_ba := box (N_b.out.trans (hb.mono N_b.out.size))
          have Za_ba := box hZ
          have Zb_ba := box (Zb_b.out.next hb)
          have ne_ba := box (show w_b.heap.size ≠ W0.drew.heap.size from by have := Zb_b.out.lt; omega)
          clear hZ hb
          refine hK.out _ _ ⟨⟨(N_ba.out.cell (cell_lt q3)).trans q3, (N_ba.out.cell (cell_lt r3)).trans r3⟩, N_ba⟩ (fun hHeld => ?_)
          clear hK K
          try simp only [Act.put, List.setIfInBounds_toArray, List.set_cons_zero, List.set_cons_succ]
          refine wpAnyH_ready (rs := [2]) (by kernel_rfl) (by simp) ?_
          refine AllReadyH.cons (o := { dst := some 11, op := Op.call { callee := Callee.value (Operand.func 23), args := #[Operand.tmp 10], argTypes := #[22] }, type := 36, pos := "fields.go:373", after := #[{ on := 1, ground := Ground.data }], guard := none }) rfl (fun K hK => ?_) AllReadyH.nil
          go_simp
          refine (rCtlQ_is SQ hvQ (box (FQ0.out.below N_ba.out)) HD HNQ).mono ?_; rintro e w_bac ⟨rfl, hb⟩
          have N_bac := box (N_ba.out.trans (hb.mono N_ba.out.size))
          have Za_bac := box (Za_ba.out.next hb)
          have Zb_bac := box (Zb_ba.out.next hb)
          clear hb
          go_wp2_with fail
          refine hK.out _ _ ⟨⟨(N_bac.out.cell (cell_lt q3)).trans q3, (N_bac.out.cell (cell_lt r3)).trans r3⟩, N_bac⟩ (fun hHeld => ?_)
          clear hK K
          try simp only [Act.put, List.setIfInBounds_toArray, List.set_cons_zero, List.set_cons_succ]
          refine wpAnyH_ready (rs := [5]) (by kernel_rfl) (by simp) ?_
          refine AllReadyH.cons (o := { dst := some 14, op := Op.call { callee := Callee.value (Operand.func 24), args := #[Operand.tmp 13], argTypes := #[22] }, type := 36, pos := "fields.go:373", after := #[{ on := 4, ground := Ground.data }, { on := 2, ground := Ground.chain }], guard := none }) rfl (fun K hK => ?_) AllReadyH.nil
          go_simp
          refine (rCtlR_is SL hvL (box (FL0.out.below N_bac.out)) HC HNL).mono ?_; rintro e w_bacd ⟨rfl, hb⟩
          have N_bacd := box (N_bac.out.trans (hb.mono N_bac.out.size))
          have Za_bacd := box (Za_bac.out.next hb)
          have Zb_bacd := box (Zb_bac.out.next hb)
          clear hb
          go_wp2_with fail
          refine hK.out _ _ ⟨⟨(N_bacd.out.cell (cell_lt q3)).trans q3, (N_bacd.out.cell (cell_lt r3)).trans r3⟩, N_bacd⟩ (fun hHeld => ?_)
          clear hK K
          try simp only [Act.put, List.setIfInBounds_toArray, List.set_cons_zero, List.set_cons_succ]
          refine wpAnyH_ready (rs := [8]) (by kernel_rfl) (by simp) ?_
          refine AllReadyH.cons (o := { dst := none, op := Op.store 36 (Operand.tmp 5) (Operand.tmp 11), type := 0, pos := "fields.go:373", after := #[{ on := 6, ground := Ground.data }, { on := 2, ground := Ground.data }, { on := 5, ground := Ground.chain }, { on := 0, ground := Ground.phase }, { on := 1, ground := Ground.phase }, { on := 2, ground := Ground.phase }, { on := 3, ground := Ground.textOnly Departure.lateStores }, { on := 4, ground := Ground.textOnly Departure.lateStores }, { on := 5, ground := Ground.textOnly Departure.lateStoresUnsure }, { on := 6, ground := Ground.phase }, { on := 7, ground := Ground.phase }], guard := none }) rfl (fun K hK => ?_) AllReadyH.nil
          refine step_store24 _ rfl (.tmp 5) (.tmp 11) rfl (w_b.heap.size) ct0 ⟨dns, d1, d2, d3, d4, d5, d6, d7, d8, d9, d10⟩ rfl rfl Za_bacd.out ?_
          intro v8 w8 hC8 hO8
          have N8 := box (N_bacd.out.trans (hO8.below N_b.out.size N_bacd.out.size))
          have Z8 := box (Zb_bacd.out.only hO8 ne_ba.out.symm)
          have C8 := box hC8
          clear hC8 hO8
          refine hK.out _ _ ⟨⟨(N8.out.cell (cell_lt q3)).trans q3, (N8.out.cell (cell_lt r3)).trans r3⟩, N8⟩ (fun hHeld => ?_)
          clear hK K
          try simp only [Act.put, List.setIfInBounds_toArray, List.set_cons_zero, List.set_cons_succ]
          refine wpAnyH_ready (rs := [9]) (by kernel_rfl) (by simp) ?_
          refine AllReadyH.cons (o := { dst := none, op := Op.store 36 (Operand.tmp 6) (Operand.tmp 14), type := 0, pos := "fields.go:373", after := #[{ on := 7, ground := Ground.data }, { on := 5, ground := Ground.data }, { on := 8, ground := Ground.chain }, { on := 0, ground := Ground.phase }, { on := 1, ground := Ground.phase }, { on := 2, ground := Ground.phase }, { on := 3, ground := Ground.phase }, { on := 4, ground := Ground.phase }, { on := 5, ground := Ground.phase }, { on := 6, ground := Ground.phase }, { on := 7, ground := Ground.phase }, { on := 8, ground := Ground.phase }], guard := none }) rfl (fun K hK => ?_) AllReadyH.nil
          refine step_store24 _ rfl (.tmp 6) (.tmp 14) rfl (W0.drew.heap.size) ct0 ⟨cns, cnc, cmr, cpr, cpv, cpb, coc, cma, csm, cmf, cms⟩ rfl rfl Z8.out ?_
          intro v9 w9 hC9 hO9
          have N9 := box (N8.out.trans (hO9.below N_.out.size N8.out.size))
          have D9 := box (C8.out.only hO9 ne_ba.out)
          have C9 := box hC9
          clear hC9 hO9
          refine hK.out _ _ ⟨⟨(N9.out.cell (cell_lt q3)).trans q3, (N9.out.cell (cell_lt r3)).trans r3⟩, N9⟩ (fun hHeld => ?_)
          clear hK K
          try simp only [Act.put, List.setIfInBounds_toArray, List.set_cons_zero, List.set_cons_succ]
          refine wpAnyH_done (by kernel_rfl) ?_ _
          clear hHeld
          go_wp2
          go_meet
          case rel => exact ⟨_, _, rfl, rfl, D9, C9, N9⟩
  case rest =>
    obtain ⟨g5, g6, rfl, rfl, D1, C1, N1⟩ := hcut
    have r31 := (N1.out.cell (cell_lt r3)).trans r3
    go_wp2_with fail
    refine (rNames24_is SL hvL (box (FL0.out.below N1.out)) HO HNL).mono ?_; rintro e w2 ⟨⟨p2, k2, c2, rfl⟩, hb2⟩
    have N2 := box (N1.out.trans (hb2.mono N1.out.size))
    have B2 := box (B0.out.trans (N2.out.mono B0.out.size))
    have D2 := box (D1.out.next hb2)
    have C2 := box (C1.out.next hb2)
    have CQ2 := box (CQ.out.next N2.out)
    have CR2 := box (CR.out.next N2.out)
    clear r31 hb2
    obtain ⟨⟨m0, m1, m2, m3, m4⟩, _⟩ := CQ2.out
    obtain ⟨⟨n0, n1, n2, n3, n4⟩, _⟩ := CR2.out
    have k0 : w2.cell? ⟨g5, 0, none⟩ = some (.bool dns) := D2.out.1.1
    have l0 : w2.cell? ⟨g6, 0, none⟩ = some (.bool cns) := C2.out.1.1
    have l2 : w2.cell? ⟨g6, 2, none⟩ = some (.bool cmr) := C2.out.1.2.2.1
    have l4 : w2.cell? ⟨g6, 4, none⟩ = some (.bool cpv) := C2.out.1.2.2.2.2.1
    have l5 : w2.cell? ⟨g6, 5, none⟩ = some (.bool cpb) := C2.out.1.2.2.2.2.2.1
    have l8 : w2.cell? ⟨g6, 8, none⟩ = some (.int .i64 csm) := C2.out.1.2.2.2.2.2.2.2.2.1
    cases g with
    | false =>
      go_wp2
      go_ret
      exact ⟨ret_bool (by rw [← HV.out]; simp [storB, anyC, bne, hsm]), B2.out⟩
    | true =>
      cases sv with
      | false =>
        go_wp2
        go_ret
        exact ⟨ret_bool (by rw [← HV.out]; simp [storB, anyC, bne, hsm]), B2.out⟩
      | true =>
        cases dns with
        | false =>
          cases cns with
          | false =>
            cases cpv with
            | false =>
              cases o with
              | false =>
                go_wp2
                go_ret
                exact ⟨ret_bool (by rw [← HV.out]; simp [storB, anyC, bne, hsm]), B2.out⟩
              | true =>
                go_wp2_with fail
                refine (rHas24_is (nm := rgN) SQ (by decide) (box (FQ0.out.below N2.out)) HR HNQ).mono ?_; rintro e w3 ⟨rfl, hb3⟩
                have N3 := box (N2.out.trans (hb3.mono N2.out.size))
                have B3 := box (B0.out.trans (N3.out.mono B0.out.size))
                have CQ3 := box (CQ.out.next N3.out)
                have C3 := box (C2.out.next hb3)
                clear hb3 m0 m1 m2 m3 m4 n0 n1 n2 n3 n4 k0 l0 l2 l4 l5 l8
                cases rg with
                | true =>
                  go_wp2
                  go_ret
                  exact ⟨ret_bool (by rw [← HV.out]; simp [storB, anyC, bne, hsm]), B3.out⟩
                | false =>
                  obtain ⟨⟨m0, m1, m2, m3, m4⟩, _⟩ := CQ3.out
                  go_wp2_with fail
                  refine (rHas24_is (nm := auN) SQ (by decide) (box (FQ0.out.below N3.out)) HA HNQ).mono ?_; rintro e w4 ⟨rfl, hb4⟩
                  have N4 := box (N3.out.trans (hb4.mono N3.out.size))
                  have B4 := box (B0.out.trans (N4.out.mono B0.out.size))
                  have C4 := box (C3.out.next hb4)
                  clear hb4 m0 m1 m2 m3 m4
                  have l2 : w4.cell? ⟨g6, 2, none⟩ = some (.bool cmr) := C4.out.1.2.2.1
                  have l5 : w4.cell? ⟨g6, 5, none⟩ = some (.bool cpb) := C4.out.1.2.2.2.2.2.1
                  have l8 : w4.cell? ⟨g6, 8, none⟩ = some (.int .i64 csm) := C4.out.1.2.2.2.2.2.2.2.2.1
                  cases au with
                  | false =>
                    have FT := box (FL0.out.below N4.out)
                    have BT := box (B0.out.trans (N4.out.mono B0.out.size))
                    have r3t := (N4.out.cell (cell_lt r3)).trans r3
                    by_cases h0 : 0 < x
                    · have hx0 : decide (0 < x) = true := decide_eq_true h0
                      go_wp2_with fail
                      refine (rLife24_is SL hvL FT HX HNL).mono ?_; rintro e wy ⟨rfl, hby⟩
                      have BY := box (BT.out.trans (hby.mono BT.out.size))
                      have FY := box (FT.out.below hby)
                      have r3y := (hby.cell (cell_lt r3t)).trans r3t
                      clear hby r3t
                      go_wp2
                      go_ret
                      exact ⟨ret_bool (by rw [← HV.out]; simp [storB, anyC, bne, hsm, h0]), BY.out⟩
                    · have hx0 : decide (0 < x) = false := decide_eq_false h0
                      go_wp2_with fail
                      refine (rLife24_is SL hvL FT HX HNL).mono ?_; rintro e wy ⟨rfl, hby⟩
                      have BY := box (BT.out.trans (hby.mono BT.out.size))
                      have FY := box (FT.out.below hby)
                      have r3y := (hby.cell (cell_lt r3t)).trans r3t
                      clear hby r3t
                      go_wp2_with fail
                      refine (rVal24_is SL hvL FY HL HNL).mono ?_; rintro e wz ⟨rfl, hbz⟩
                      have BY := box (BY.out.trans (hbz.mono BY.out.size))
                      clear hbz
                      go_wp2
                      go_ret
                      exact ⟨ret_bool (by rw [← HV.out]; simp [storB, anyC, bne, hsm, h0]; intro _; omega), BY.out⟩
                  | true =>
                    cases cmr with
                    | true =>
                      have FT := box (FL0.out.below N4.out)
                      have BT := box (B0.out.trans (N4.out.mono B0.out.size))
                      have r3t := (N4.out.cell (cell_lt r3)).trans r3
                      by_cases h0 : 0 < x
                      · have hx0 : decide (0 < x) = true := decide_eq_true h0
                        go_wp2_with fail
                        refine (rLife24_is SL hvL FT HX HNL).mono ?_; rintro e wy ⟨rfl, hby⟩
                        have BY := box (BT.out.trans (hby.mono BT.out.size))
                        have FY := box (FT.out.below hby)
                        have r3y := (hby.cell (cell_lt r3t)).trans r3t
                        clear hby r3t
                        go_wp2
                        go_ret
                        exact ⟨ret_bool (by rw [← HV.out]; simp [storB, anyC, bne, hsm, h0]), BY.out⟩
                      · have hx0 : decide (0 < x) = false := decide_eq_false h0
                        go_wp2_with fail
                        refine (rLife24_is SL hvL FT HX HNL).mono ?_; rintro e wy ⟨rfl, hby⟩
                        have BY := box (BT.out.trans (hby.mono BT.out.size))
                        have FY := box (FT.out.below hby)
                        have r3y := (hby.cell (cell_lt r3t)).trans r3t
                        clear hby r3t
                        go_wp2_with fail
                        refine (rVal24_is SL hvL FY HL HNL).mono ?_; rintro e wz ⟨rfl, hbz⟩
                        have BY := box (BY.out.trans (hbz.mono BY.out.size))
                        clear hbz
                        go_wp2
                        go_ret
                        exact ⟨ret_bool (by rw [← HV.out]; simp [storB, anyC, bne, hsm, h0]; intro _; omega), BY.out⟩
                    | false =>
                      cases cpb with
                      | true =>
                        have FT := box (FL0.out.below N4.out)
                        have BT := box (B0.out.trans (N4.out.mono B0.out.size))
                        have r3t := (N4.out.cell (cell_lt r3)).trans r3
                        by_cases h0 : 0 < x
                        · have hx0 : decide (0 < x) = true := decide_eq_true h0
                          go_wp2_with fail
                          refine (rLife24_is SL hvL FT HX HNL).mono ?_; rintro e wy ⟨rfl, hby⟩
                          have BY := box (BT.out.trans (hby.mono BT.out.size))
                          have FY := box (FT.out.below hby)
                          have r3y := (hby.cell (cell_lt r3t)).trans r3t
                          clear hby r3t
                          go_wp2
                          go_ret
                          exact ⟨ret_bool (by rw [← HV.out]; simp [storB, anyC, bne, hsm, h0]), BY.out⟩
                        · have hx0 : decide (0 < x) = false := decide_eq_false h0
                          go_wp2_with fail
                          refine (rLife24_is SL hvL FT HX HNL).mono ?_; rintro e wy ⟨rfl, hby⟩
                          have BY := box (BT.out.trans (hby.mono BT.out.size))
                          have FY := box (FT.out.below hby)
                          have r3y := (hby.cell (cell_lt r3t)).trans r3t
                          clear hby r3t
                          go_wp2_with fail
                          refine (rVal24_is SL hvL FY HL HNL).mono ?_; rintro e wz ⟨rfl, hbz⟩
                          have BY := box (BY.out.trans (hbz.mono BY.out.size))
                          clear hbz
                          go_wp2
                          go_ret
                          exact ⟨ret_bool (by rw [← HV.out]; simp [storB, anyC, bne, hsm, h0]; intro _; omega), BY.out⟩
                      | false =>
                        cases sb with
                        | true =>
                          go_wp2
                          go_ret
                          exact ⟨ret_bool (by rw [← HV.out]; simp [storB, anyC, bne, hsm]), B4.out⟩
                        | false =>
                          have FT := box (FL0.out.below N4.out)
                          have BT := box (B0.out.trans (N4.out.mono B0.out.size))
                          have r3t := (N4.out.cell (cell_lt r3)).trans r3
                          by_cases h0 : 0 < x
                          · have hx0 : decide (0 < x) = true := decide_eq_true h0
                            go_wp2_with fail
                            refine (rLife24_is SL hvL FT HX HNL).mono ?_; rintro e wy ⟨rfl, hby⟩
                            have BY := box (BT.out.trans (hby.mono BT.out.size))
                            have FY := box (FT.out.below hby)
                            have r3y := (hby.cell (cell_lt r3t)).trans r3t
                            clear hby r3t
                            go_wp2
                            go_ret
                            exact ⟨ret_bool (by rw [← HV.out]; simp [storB, anyC, bne, hsm, h0]), BY.out⟩
                          · have hx0 : decide (0 < x) = false := decide_eq_false h0
                            go_wp2_with fail
                            refine (rLife24_is SL hvL FT HX HNL).mono ?_; rintro e wy ⟨rfl, hby⟩
                            have BY := box (BT.out.trans (hby.mono BT.out.size))
                            have FY := box (FT.out.below hby)
                            have r3y := (hby.cell (cell_lt r3t)).trans r3t
                            clear hby r3t
                            go_wp2_with fail
                            refine (rVal24_is SL hvL FY HL HNL).mono ?_; rintro e wz ⟨rfl, hbz⟩
                            have BY := box (BY.out.trans (hbz.mono BY.out.size))
                            clear hbz
                            go_wp2
                            go_ret
                            exact ⟨ret_bool (by rw [← HV.out]; simp [storB, anyC, bne, hsm, h0]; intro _; omega), BY.out⟩
            | true =>
              go_wp2
              go_ret
              exact ⟨ret_bool (by rw [← HV.out]; simp [storB, anyC, bne, hsm]), B2.out⟩
          | true =>
            go_wp2
            go_ret
            exact ⟨ret_bool (by rw [← HV.out]; simp [storB, anyC, bne, hsm]), B2.out⟩
        | true =>
          go_wp2
          go_ret
          exact ⟨ret_bool (by rw [← HV.out]; simp [storB, anyC, bne, hsm]), B2.out⟩
end
end Go.Proofs.YtiogngfemelifaaGreatDoor.Asc
