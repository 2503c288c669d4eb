/- Merged texts: VryRef3 VryLay VrySpec3 VrySort VryNam BldMore AccLaws2. -/
import Derived.Test.YtlhcccakiidbdaaZa01
import Derived.Test.YtlhcccakiidbdaaZa02
import Derived.Test.YtlhcccakiidbdaaZa03
import Derived.Test.YtlhcccakiidbdaaZa04
import Derived.Test.YtlhcccakiidbdaaZa05
import Derived.Test.YtlhcccakiidbdaaZa06
import Derived.Test.YtlhcccakiidbdaaZa07
import Derived.Test.YtlhcccakiidbdaaZa08
import Derived.Test.YtlhcccakiidbdaaZa09
import Derived.Deep.RegionHeld3
import Derived.DeepKeys4
import Derived.LaidMore
import Derived.Laws.AppendOwnNone
import Derived.Lib.Hide
import Derived.Lib.LaidTab
import Derived.Lib.OwnBridge
import Derived.Lib.SlicesCompact
import Derived.LoopTactic
import Derived.Maps.OwnSet
import Derived.OwnWalk
import Derived.Shelf.Slices.In.CompactS
import Derived.Shelf.Slices.In.SortNone
import Derived.Sort.OwnSorted
import Derived.Sort.Walk0
set_option linter.unusedVariables false
set_option linter.unusedSimpArgs false
set_option maxRecDepth 100000
namespace Go.Proofs.Ytlhcccakiidbdaa.Asc
section
open Go.RowKit
theorem star19_is (x : ByteArray) (b : Bool) (h : decide (x.data.toList = [42]) = b) : (x.toList == [42]) = b := by
  rw [← h, toList_data, Bool.eq_iff_iff, beq_iff_eq, decide_eq_true_eq]
theorem less_is {x y : ByteArray} {b : Bool} (h : decide (x.data.toList < y.data.toList) = b) : Op.bytesLess x.toList y.toList = b := by
  rw [bytesLess_eq, toList_data, toList_data]; exact h
theorem rTok19_is {s : ByteArray} {b : Bool} {w : World} (hs : s.size ≤ 65000) (h : Box (tokL s.data.toList = b)) :
    Calls Try.prog 21 #[.string s] w fun e w' => e = .returned (.bool b) ∧ w = w' :=
  (rToken_any s w (by unfold maxLen; omega)).mono fun e w' ⟨h1, h2⟩ => ⟨by rw [h1, h.out], h2⟩
theorem src_one {w : World} {g c : Nat} {y : ByteArray} (h : w.cell? ⟨g, 0, none⟩ = some (.string y)) : SrcS w (.slice (some ⟨g, 0, none⟩) 1 c) [y] :=
  .inr ⟨_, _, rfl, fun i hi => ⟨g, 0, rfl, by
    have : i = 0 := by simpa using hi
    subst this; exact h⟩⟩
/-- the names of the first k members -/
def NmRel (ms : List BL) (W : World) (v i : Value) (wr : World) : Prop :=
  ∃ k : Nat, i = .int .i64 k ∧ k ≤ ms.length ∧ (ms.take k).all okM = true ∧ OwnS wr W.heap.size v (namB (ms.take k)) ∧ Box (Below W.heap.size W wr)
/-- names ahead of x -/
def At19Rel (R : List ByteArray) (x : ByteArray) (i : Value) : Prop :=
  ∃ j : Nat, i = .int .i64 j ∧ j ≤ R.length ∧ Box (∀ i (hi : i < R.length), i < j → R[i].data.toList < x.data.toList)
def NamesY (w : World) (L : List F) (e : Ending) (w' : World) : Prop := ∃ v, e = .returned (.tuple #[v, .bool (namesO L)]) ∧ OwnS w' w.heap.size v (nmsB L) ∧ Below w.heap.size w w'
set_option maxHeartbeats 8000000 in
theorem rNames_any (a : Option Addr) (cap : Nat) (L : List F) (w : World) (S : Box (Sm L)) (hv : Box (∀ x ∈ getL nmVry L, x.size ≤ 65000)) (hF : Box (Fs w a L)) :
    Calls Try.prog 9 #[.slice a L.length cap] w fun e w' => NamesY w L e w' := by
  obtain ⟨ms, hms⟩ : ∃ ms, allL nmVry L = ms := ⟨_, rfl⟩
  have HMS := box hms
  obtain ⟨m, hm⟩ : ∃ m, ms.length = m := ⟨_, rfl⟩
  have HB : Box ((allB nmVry L).length = m) := box (by unfold allB; rw [List.length_map, hms, hm])
  have HZ := box (allB_mem19 hv.out)
  have hnv : nmVry.size ≤ 65536 := by decide
  by_cases hm0 : m < 64
  · have hmi : ¬ (64 : Int) ≤ (m : Int) := by omega
    have HM := box hm
    clear hms hm
    go_enter Try.func9, Try.ntmps9
    go_wp2_with fail
    refine (rAll19_is (nm := nmVry) S hv hnv hF.out HB).mono ?_; rintro e w0 ⟨p, c, rfl, hS, hb⟩
    have B0 := box hb
    have S0 := box hS
    have hs00 := hb.size
    clear hb hS
    go_wp2
    go_loopw [5, 6] (fun v i wr => NmRel ms w0 v i wr) (fun _ i _ => m - (intOf i).toNat)
    case atStart => exact ⟨0, rfl, Nat.zero_le _, rfl, OwnS.nil _ _, box (Below.refl _ _)⟩
    case round =>
      obtain ⟨k, rfl, hk, hall, hO, B1⟩ := hrel
      obtain ⟨ws, rfl⟩ : ∃ ws, ws = wr := ⟨_, rfl⟩
      have HA := box hall
      have O := box hO
      obtain ⟨oa, oc, rfl, hSo, hoc⟩ := hO.ss
      obtain ⟨R, hR⟩ : ∃ R, namB (ms.take k) = R := ⟨_, rfl⟩
      have HR := box hR
      rw [hR] at O hSo hoc ⊢
      obtain ⟨n, hn⟩ : ∃ n, R.length = n := ⟨_, rfl⟩
      have HN := box hn
      rw [hn] at O hoc ⊢
      have hs1 := B1.out.size
      have SO := box hSo
      have hnk : n ≤ k := by
        have h1 := namB_len (ms.take k)
        rw [hR, hn, List.length_take] at h1; omega
      rw [HM.out] at hk
      clear hall hO hSo hR
      by_cases hkm : k < m
      · have hki : (k : Int) < (m : Int) := by omega
        have hk0 : (0 : Int) ≤ (k : Int) := by omega
        have HKL := box (show k < ms.length by rw [HM.out]; exact hkm)
        obtain ⟨x, hx⟩ : ∃ x, bs (ms[k]'HKL.out) = x := ⟨_, rfl⟩
        have hkb : k < (allB nmVry L).length := by rw [HB.out]; exact hkm
        have hx2 : (allB nmVry L)[k] = x := by
          rw [← hx]
          simp only [allB, List.getElem_map]
          congr 1
          simp only [HMS.out]
        obtain ⟨g, off, rfl, c0⟩ := (S0.out.below B1.out) k hkb
        rw [hx2] at c0
        have hxz : x.size ≤ 65000 := by rw [← hx2]; exact HZ.out _ (List.getElem_mem hkb)
        obtain ⟨tb, htb⟩ : ∃ tb, tokL x.data.toList = tb := ⟨_, rfl⟩
        have HTB := box htb
        obtain ⟨sb, hsb⟩ : ∃ sb, decide (x.data.toList = [42]) = sb := ⟨_, rfl⟩
        have hst := star19_is x sb hsb
        have HOK : Box (okM (ms[k]'HKL.out) = (tb && !sb)) := box (by rw [← htb, ← hsb, ← hx]; unfold okM; rw [bs_toList, decide_not])
        clear hsb htb
        cases tb with
        | false =>
          have HNO : Box (okU (allL nmVry L) = false) := box (by rw [HMS.out]; exact okU_no HKL.out (by rw [HOK.out]; rfl))
          clear hx hx2 hkb
          go_wp2_with fail
          refine (rTok19_is hxz HTB).mono ?_; rintro e w2 ⟨rfl, rfl⟩
          go_wp2
          go_ret2
          exact ⟨_, by unfold namesO; rw [HNO.out]; rfl, by rw [nmsB_no HNO.out]; exact OwnS.nil _ _, B0.out.trans (B1.out.mono hs00)⟩
        | true =>
          cases sb with
          | true =>
            have HNO : Box (okU (allL nmVry L) = false) := box (by rw [HMS.out]; exact okU_no HKL.out (by rw [HOK.out]; rfl))
            clear hx hx2 hkb
            go_wp2_with fail
            refine (rTok19_is hxz HTB).mono ?_; rintro e w2 ⟨rfl, rfl⟩
            go_wp2
            go_ret2
            exact ⟨_, by unfold namesO; rw [HNO.out]; rfl, by rw [nmsB_no HNO.out]; exact OwnS.nil _ _, B0.out.trans (B1.out.mono hs00)⟩
          | false =>
            have HOKK : Box ((ms.take (k + 1)).all okM = true) := box (okM_more HKL.out HA.out (by rw [HOK.out]; rfl))
            obtain ⟨y, hy⟩ : ∃ y, bs (lowL x.data.toList) = y := ⟨_, rfl⟩
            have HY := box hy
            have HY2 : Box (bs (lowL (ms[k]'HKL.out)) = y) := box (by rw [← hy, ← hx]; rfl)
            clear hx hx2 hkb hy
            go_wp2_with fail
            refine (rTok19_is hxz HTB).mono ?_; rintro e w2 ⟨rfl, rfl⟩
            go_wp2_with fail
            refine (rLow19_is (by omega) HY).mono ?_; rintro e w3 ⟨rfl, hb3⟩
            have B3 := box (B1.out.trans (hb3.mono hs1))
            have O3 := box (own_below O.out hb3)
            have SO3 := box (SO.out.below hb3)
            have hs3 := B3.out.size
            clear hb3 c0
            go_wp2
            go_loop [8] (fun i => At19Rel R y i) (fun i => n - (intOf i).toNat)
            case atStart => exact ⟨0, rfl, Nat.zero_le _, box (fun i hi h => by omega)⟩
            case round =>
              obtain ⟨j, rfl, hj, HJ⟩ := hrel
              have hj0 : (0 : Int) ≤ (j : Int) := by omega
              rw [hn] at hj
              by_cases hjn : j < n
              · have hji : (j : Int) < (n : Int) := by omega
                have hjR : j < R.length := by rw [hn]; exact hjn
                obtain ⟨z, hz⟩ : ∃ z, R[j] = z := ⟨_, rfl⟩
                obtain ⟨g2, off2, rfl, c2⟩ := SO3.out j hjR
                rw [hz] at c2
                obtain ⟨lb, hlb⟩ : ∃ lb, decide (z.data.toList < y.data.toList) = lb := ⟨_, rfl⟩
                have hls := less_is hlb
                cases lb with
                | true =>
                  have HJ2 := box (show ∀ i (hi : i < R.length), i < j + 1 → R[i].data.toList < y.data.toList from fun i hi h => by
                    rcases Nat.lt_or_ge i j with q | q
                    · exact HJ.out i hi q
                    · have : i = j := by omega
                      subst this
                      rw [hz]; exact of_decide_eq_true hlb)
                  clear hlb hz hjR
                  go_wp2
                  go_round
                  case rel => exact ⟨j + 1, by go_num, by rw [HN.out]; omega, HJ2⟩
                  case measure => simp [intOf]; omega
                | false =>
                  obtain ⟨eb, heb⟩ : ∃ eb, (z.toList == y.toList) = eb := ⟨_, rfl⟩
                  cases eb with
                  | true =>
                    have HSAME : Box (namB (ms.take (k + 1)) = R) := box (namB_same HKL.out HR.out HY2.out hjR HJ.out (by rw [hz]; exact str_eq heb))
                    clear hlb hz hjR
                    go_wp2
                    go_roundw
                    case rel => exact ⟨k + 1, by go_num, by rw [HM.out]; omega, HOKK.out, by rw [HSAME.out, ← HN.out] at *; exact O3.out, B3⟩
                    case measure => simp [intOf]; omega
                  | false =>
                    have HPUT : Box (namB (ms.take (k + 1)) = R.take j ++ [y] ++ R.drop j) := box (namB_put HKL.out HR.out HY2.out (by omega) HJ.out (fun hi => ⟨by rw [hz]; exact of_decide_eq_false hlb, by
                      rw [hz]; intro e; subst e; simp at heb⟩))
                    clear hlb hz hjR
                    have hr1 := fun w => run_hi19 (a := (some ⟨g2, off2, none⟩ : Option Addr)) (n := n) (cap := oc) (k := j) (by omega) w
                    have hr2 := fun w => run_lo19 (a := (some ⟨g2, off2, none⟩ : Option Addr)) (n := n) (cap := oc) (k := j) (by omega) w
                    have SH := box (src_hi O3.out HN.out (show j ≤ n by omega))
                    have SL0 := box (src_lo O3.out HN.out (show j ≤ n by omega))
                    obtain ⟨u, hu⟩ : ∃ u, Value.slice (if oc = j then (some ⟨g2, off2, none⟩ : Option Addr) else (some ⟨g2, off2, none⟩ : Option Addr).map (·.add j)) (n - j) (oc - j) = u := ⟨_, rfl⟩
                    have SL : Box (SrcS w3 u (R.drop j)) := box (by rw [← hu]; exact SL0.out)
                    simp only [hu] at hr2
                    have hRl : Box (R.length ≤ 64) := box (by rw [HN.out]; omega)
                    clear hu SL0
                    go_wp2_with (at_builtin; refine wpList_append_src _ rfl (.const (.slice none 0 0)) (.tmp 67) rfl w3.heap.size _ [] rfl (OwnS.nil _ _) _ (R.take j) rfl SH.out (Nat.zero_le _) ?l0x (Nat.le_refl _) ?n0x)
                    case l0x => have := hRl.out; (try simp); omega
                    case n0x =>
                      intro v4 w4 hO4 hb4
                      try rw [List.nil_append] at hO4
                      have O4 := box hO4
                      have B4 := box hb4
                      have hs4 := hb4.size
                      have BS0 := box ((Below.refl w4.heap.size w4).drew)
                      clear hO4 hb4
                      go_wp2
                      refine wp_region_held_drew (S := (fun w' : World => Box (Below w3.heap.size w3 w'))) (by kernel_rfl) (box B4.out.drew) (fun hHeld => ?_)
                      refine wpAnyH_take (i := 0) (oi := { dst := some 69, op := Op.move (Operand.tmp 9), type := 24, pos := "fields.go:30", after := #[], guard := none }) (v := ?v0z1) rfl (by kernel_rfl) (by kernel_rfl) (by kernel_rfl) (fun _ _ _ h => h) (Or.inl ⟨by rfl, ?y0z1⟩) (by assumption) ?r0z1
                      case y0z1 => (intro w hSw; (try dsimp only at hSw); go_simp; first | done | with_reducible rfl)
                      try simp only [Act.put, List.setIfInBounds_toArray, List.set_cons_zero, List.set_cons_succ]
                      refine wpAnyH_take (i := 1) (oi := { dst := some 70, op := Op.move (Operand.tmp 7), type := 9, pos := "fields.go:30", after := #[], guard := none }) (v := ?v1z1) rfl (by kernel_rfl) (by kernel_rfl) (by kernel_rfl) (fun _ _ _ h => h) (Or.inl ⟨by rfl, ?y1z1⟩) (by assumption) ?r1z1
                      case y1z1 => (intro w hSw; (try dsimp only at hSw); go_simp; first | done | with_reducible rfl)
                      try simp only [Act.put, List.setIfInBounds_toArray, List.set_cons_zero, List.set_cons_succ]
                      refine wpAnyH_take (i := 4) (oi := { dst := some 73, op := Op.move (Operand.tmp 5), type := 24, pos := "fields.go:30", after := #[], guard := none }) (v := ?v4z1) rfl (by kernel_rfl) (by kernel_rfl) (by kernel_rfl) (fun _ _ _ h => h) (Or.inl ⟨by rfl, ?y4z1⟩) (by assumption) ?r4z1
                      case y4z1 => (intro w hSw; (try dsimp only at hSw); go_simp; first | done | with_reducible rfl)
                      try simp only [Act.put, List.setIfInBounds_toArray, List.set_cons_zero, List.set_cons_succ]
                      refine wpAnyH_take (i := 5) (oi := { dst := some 74, op := Op.move (Operand.tmp 8), type := 3, pos := "fields.go:30", after := #[], guard := none }) (v := ?v5z1) rfl (by kernel_rfl) (by kernel_rfl) (by kernel_rfl) (fun _ _ _ h => h) (Or.inl ⟨by rfl, ?y5z1⟩) (by assumption) ?r5z1
                      case y5z1 => (intro w hSw; (try dsimp only at hSw); go_simp; first | done | with_reducible rfl)
                      try simp only [Act.put, List.setIfInBounds_toArray, List.set_cons_zero, List.set_cons_succ]
                      refine wpAnyH_take (i := 6) (oi := { dst := some 75, op := Op.slice 24 (Operand.tmp 73) (some (Operand.tmp 74)) none none, type := 24, pos := "fields.go:30", after := #[{ on := 4, ground := Ground.data }, { on := 5, ground := Ground.data }], guard := none }) (v := ?v6z1) rfl (by kernel_rfl) (by kernel_rfl) (by kernel_rfl) (fun _ _ _ h => h) (Or.inl ⟨by rfl, ?y6z1⟩) (by assumption) ?r6z1
                      case y6z1 => (intro w hSw; (try dsimp only at hSw); go_simp; first | done | with_reducible rfl)
                      try simp only [Act.put, List.setIfInBounds_toArray, List.set_cons_zero, List.set_cons_succ]
                      refine wpAnyH_ready (rs := [2]) (by kernel_rfl) (by simp) ?_
                      refine AllReadyH.cons (o := { dst := some 71, op := Op.buildSlice 24 1 #[(0, Operand.tmp 70)], type := 24, pos := "fields.go:30", after := #[{ on := 1, ground := Ground.data }], guard := none }) rfl (fun K hK => ?_) AllReadyH.nil
                      go_simp
                      have BS1 := box (BS0.out.alloc BS0.out.size (.cells #[.string y] 9))
                      have B41 := box (B4.out.trans (BS1.out.mono hs4))
                      go_wp2_with fail
                      refine hK.out _ _ B41 (fun hHeld => ?_)
                      clear hK K
                      try simp only [Act.put, List.setIfInBounds_toArray, List.set_cons_zero, List.set_cons_succ]
                      refine wpAnyH_ready (rs := [3]) (by kernel_rfl) (by simp) ?_
                      refine AllReadyH.cons (o := { dst := some 72, op := Op.call { callee := Callee.builtin Builtin.append, args := #[Operand.tmp 69, Operand.tmp 71], argTypes := #[24, 24] }, type := 24, pos := "fields.go:30", after := #[{ on := 0, ground := Ground.data }, { on := 2, ground := Ground.data }], guard := none }) rfl (fun K hK => ?_) AllReadyH.nil
                      refine step_append_src _ rfl (.tmp 69) (.tmp 71) rfl w3.heap.size v4 (R.take j) rfl (own_below O4.out BS1.out) _ [y] rfl (src_one ((World.cell?_alloc_at (w := w4.drew) #[.string y] 9 w4.drew.heap.size 0 rfl).trans rfl)) ?l1x (by simp) B41.out.size ?n1x
                      case l1x => have := hRl.out; (try simp); omega
                      case n1x =>
                      intro v5 w5 hO5 hb5
                      have B5 := box (B41.out.trans hb5)
                      refine hK.out _ _ B5 (fun hHeld => ?_)
                      clear hK K
                      try simp only [Act.put, List.setIfInBounds_toArray, List.set_cons_zero, List.set_cons_succ]
                      refine wpAnyH_ready (rs := [7]) (by kernel_rfl) (by simp) ?_
                      refine AllReadyH.cons (o := { dst := some 76, op := Op.call { callee := Callee.builtin Builtin.append, args := #[Operand.tmp 72, Operand.tmp 75], argTypes := #[24, 24] }, type := 24, pos := "fields.go:30", after := #[{ on := 3, ground := Ground.data }, { on := 6, ground := Ground.data }, { on := 3, ground := Ground.chain }], guard := none }) rfl (fun K hK => ?_) AllReadyH.nil
                      refine step_append_src _ rfl (.tmp 72) (.tmp 75) rfl w3.heap.size v5 (R.take j ++ [y]) rfl hO5 _ (R.drop j) rfl (SL.out.below B5.out) ?l3x ?l4x B5.out.size ?n2x
                      case l3x => have := hRl.out; (try simp); omega
                      case l4x => have := hRl.out; (try simp); omega
                      case n2x =>
                      intro v6 w6 hO6 hb6
                      have B6 := box (B5.out.trans hb6)
                      refine hK.out _ _ B6 (fun hHeld => ?_)
                      clear hK K
                      try simp only [Act.put, List.setIfInBounds_toArray, List.set_cons_zero, List.set_cons_succ]
                      refine wpAnyH_take (i := 8) (oi := { dst := some 5, op := Op.assign (Operand.tmp 76), type := 24, pos := "fields.go:30", after := #[{ on := 7, ground := Ground.data }, { on := 7, ground := Ground.chain }, { on := 0, ground := Ground.phase }, { on := 1, ground := Ground.phase }, { on := 2, ground := Ground.phase }, { on := 3, ground := Ground.phase }, { on := 4, ground := Ground.phase }, { on := 5, ground := Ground.phase }, { on := 6, ground := Ground.phase }, { on := 7, ground := Ground.phase }], guard := none }) (v := ?v8z1) rfl (by kernel_rfl) (by kernel_rfl) (by kernel_rfl) (fun _ _ _ h => h) (Or.inl ⟨by rfl, ?y8z1⟩) (by assumption) ?r8z1
                      case y8z1 => (intro w hSw; (try dsimp only at hSw); go_simp; first | done | with_reducible rfl)
                      try simp only [Act.put, List.setIfInBounds_toArray, List.set_cons_zero, List.set_cons_succ]
                      refine wpAnyH_done (by kernel_rfl) ?_ _
                      have OE := box (show OwnS w6 w0.heap.size v6 (namB (ms.take (k + 1))) from by rw [HPUT.out]; exact Go.Joins.ownsRow_le hO6 hs3)
                      have BE := box (B3.out.trans (B6.out.mono hs3))
                      clear hO6 hb6 hO5 hb5 BS0 BS1 B41 B5 hHeld
                      go_wp2
                      go_roundw
                      case rel => exact ⟨k + 1, by go_num, by rw [HM.out]; omega, HOKK.out, OE.out, BE⟩
                      case measure => simp [intOf]; omega
              · have hji : ¬ (j : Int) < (n : Int) := by omega
                have HPUT : Box (namB (ms.take (k + 1)) = R.take j ++ [y] ++ R.drop j) := box (namB_put HKL.out HR.out HY2.out (by omega) HJ.out (fun hi => absurd hi (by rw [hn]; exact hjn)))
                have hr1 := fun w => run_hi19 (a := oa) (n := n) (cap := oc) (k := j) (by omega) w
                have hr2 := fun w => run_lo19 (a := oa) (n := n) (cap := oc) (k := j) (by omega) w
                have SH := box (src_hi O3.out HN.out (show j ≤ n by omega))
                have SL0 := box (src_lo O3.out HN.out (show j ≤ n by omega))
                obtain ⟨u, hu⟩ : ∃ u, Value.slice (if oc = j then oa else oa.map (·.add j)) (n - j) (oc - j) = u := ⟨_, rfl⟩
                have SL : Box (SrcS w3 u (R.drop j)) := box (by rw [← hu]; exact SL0.out)
                simp only [hu] at hr2
                have hRl : Box (R.length ≤ 64) := box (by rw [HN.out]; omega)
                clear hu SL0
                go_wp2_with (at_builtin; refine wpList_append_src _ rfl (.const (.slice none 0 0)) (.tmp 67) rfl w3.heap.size _ [] rfl (OwnS.nil _ _) _ (R.take j) rfl SH.out (Nat.zero_le _) ?l0y (Nat.le_refl _) ?n0y)
                case l0y => have := hRl.out; (try simp); omega
                case n0y =>
                  intro v4 w4 hO4 hb4
                  try rw [List.nil_append] at hO4
                  have O4 := box hO4
                  have B4 := box hb4
                  have hs4 := hb4.size
                  have BS0 := box ((Below.refl w4.heap.size w4).drew)
                  clear hO4 hb4
                  go_wp2
                  refine wp_region_held_drew (S := (fun w' : World => Box (Below w3.heap.size w3 w'))) (by kernel_rfl) (box B4.out.drew) (fun hHeld => ?_)
                  refine wpAnyH_take (i := 0) (oi := { dst := some 69, op := Op.move (Operand.tmp 9), type := 24, pos := "fields.go:30", after := #[], guard := none }) (v := ?v0z2) rfl (by kernel_rfl) (by kernel_rfl) (by kernel_rfl) (fun _ _ _ h => h) (Or.inl ⟨by rfl, ?y0z2⟩) (by assumption) ?r0z2
                  case y0z2 => (intro w hSw; (try dsimp only at hSw); go_simp; first | done | with_reducible rfl)
                  try simp only [Act.put, List.setIfInBounds_toArray, List.set_cons_zero, List.set_cons_succ]
                  refine wpAnyH_take (i := 1) (oi := { dst := some 70, op := Op.move (Operand.tmp 7), type := 9, pos := "fields.go:30", after := #[], guard := none }) (v := ?v1z2) rfl (by kernel_rfl) (by kernel_rfl) (by kernel_rfl) (fun _ _ _ h => h) (Or.inl ⟨by rfl, ?y1z2⟩) (by assumption) ?r1z2
                  case y1z2 => (intro w hSw; (try dsimp only at hSw); go_simp; first | done | with_reducible rfl)
                  try simp only [Act.put, List.setIfInBounds_toArray, List.set_cons_zero, List.set_cons_succ]
                  refine wpAnyH_take (i := 4) (oi := { dst := some 73, op := Op.move (Operand.tmp 5), type := 24, pos := "fields.go:30", after := #[], guard := none }) (v := ?v4z2) rfl (by kernel_rfl) (by kernel_rfl) (by kernel_rfl) (fun _ _ _ h => h) (Or.inl ⟨by rfl, ?y4z2⟩) (by assumption) ?r4z2
                  case y4z2 => (intro w hSw; (try dsimp only at hSw); go_simp; first | done | with_reducible rfl)
                  try simp only [Act.put, List.setIfInBounds_toArray, List.set_cons_zero, List.set_cons_succ]
                  refine wpAnyH_take (i := 5) (oi := { dst := some 74, op := Op.move (Operand.tmp 8), type := 3, pos := "fields.go:30", after := #[], guard := none }) (v := ?v5z2) rfl (by kernel_rfl) (by kernel_rfl) (by kernel_rfl) (fun _ _ _ h => h) (Or.inl ⟨by rfl, ?y5z2⟩) (by assumption) ?r5z2
                  case y5z2 => (intro w hSw; (try dsimp only at hSw); go_simp; first | done | with_reducible rfl)
                  try simp only [Act.put, List.setIfInBounds_toArray, List.set_cons_zero, List.set_cons_succ]
                  refine wpAnyH_take (i := 6) (oi := { dst := some 75, op := Op.slice 24 (Operand.tmp 73) (some (Operand.tmp 74)) none none, type := 24, pos := "fields.go:30", after := #[{ on := 4, ground := Ground.data }, { on := 5, ground := Ground.data }], guard := none }) (v := ?v6z2) rfl (by kernel_rfl) (by kernel_rfl) (by kernel_rfl) (fun _ _ _ h => h) (Or.inl ⟨by rfl, ?y6z2⟩) (by assumption) ?r6z2
                  case y6z2 => (intro w hSw; (try dsimp only at hSw); go_simp; first | done | with_reducible rfl)
                  try simp only [Act.put, List.setIfInBounds_toArray, List.set_cons_zero, List.set_cons_succ]
                  refine wpAnyH_ready (rs := [2]) (by kernel_rfl) (by simp) ?_
                  refine AllReadyH.cons (o := { dst := some 71, op := Op.buildSlice 24 1 #[(0, Operand.tmp 70)], type := 24, pos := "fields.go:30", after := #[{ on := 1, ground := Ground.data }], guard := none }) rfl (fun K hK => ?_) AllReadyH.nil
                  go_simp
                  have BS1 := box (BS0.out.alloc BS0.out.size (.cells #[.string y] 9))
                  have B41 := box (B4.out.trans (BS1.out.mono hs4))
                  go_wp2_with fail
                  refine hK.out _ _ B41 (fun hHeld => ?_)
                  clear hK K
                  try simp only [Act.put, List.setIfInBounds_toArray, List.set_cons_zero, List.set_cons_succ]
                  refine wpAnyH_ready (rs := [3]) (by kernel_rfl) (by simp) ?_
                  refine AllReadyH.cons (o := { dst := some 72, op := Op.call { callee := Callee.builtin Builtin.append, args := #[Operand.tmp 69, Operand.tmp 71], argTypes := #[24, 24] }, type := 24, pos := "fields.go:30", after := #[{ on := 0, ground := Ground.data }, { on := 2, ground := Ground.data }], guard := none }) rfl (fun K hK => ?_) AllReadyH.nil
                  refine step_append_src _ rfl (.tmp 69) (.tmp 71) rfl w3.heap.size v4 (R.take j) rfl (own_below O4.out BS1.out) _ [y] rfl (src_one ((World.cell?_alloc_at (w := w4.drew) #[.string y] 9 w4.drew.heap.size 0 rfl).trans rfl)) ?l1y (by simp) B41.out.size ?n1y
                  case l1y => have := hRl.out; (try simp); omega
                  case n1y =>
                  intro v5 w5 hO5 hb5
                  have B5 := box (B41.out.trans hb5)
                  refine hK.out _ _ B5 (fun hHeld => ?_)
                  clear hK K
                  try simp only [Act.put, List.setIfInBounds_toArray, List.set_cons_zero, List.set_cons_succ]
                  refine wpAnyH_ready (rs := [7]) (by kernel_rfl) (by simp) ?_
                  refine AllReadyH.cons (o := { dst := some 76, op := Op.call { callee := Callee.builtin Builtin.append, args := #[Operand.tmp 72, Operand.tmp 75], argTypes := #[24, 24] }, type := 24, pos := "fields.go:30", after := #[{ on := 3, ground := Ground.data }, { on := 6, ground := Ground.data }, { on := 3, ground := Ground.chain }], guard := none }) rfl (fun K hK => ?_) AllReadyH.nil
                  refine step_append_src _ rfl (.tmp 72) (.tmp 75) rfl w3.heap.size v5 (R.take j ++ [y]) rfl hO5 _ (R.drop j) rfl (SL.out.below B5.out) ?l3y ?l4y B5.out.size ?n2y
                  case l3y => have := hRl.out; (try simp); omega
                  case l4y => have := hRl.out; (try simp); omega
                  case n2y =>
                  intro v6 w6 hO6 hb6
                  have B6 := box (B5.out.trans hb6)
                  refine hK.out _ _ B6 (fun hHeld => ?_)
                  clear hK K
                  try simp only [Act.put, List.setIfInBounds_toArray, List.set_cons_zero, List.set_cons_succ]
                  refine wpAnyH_take (i := 8) (oi := { dst := some 5, op := Op.assign (Operand.tmp 76), type := 24, pos := "fields.go:30", after := #[{ on := 7, ground := Ground.data }, { on := 7, ground := Ground.chain }, { on := 0, ground := Ground.phase }, { on := 1, ground := Ground.phase }, { on := 2, ground := Ground.phase }, { on := 3, ground := Ground.phase }, { on := 4, ground := Ground.phase }, { on := 5, ground := Ground.phase }, { on := 6, ground := Ground.phase }, { on := 7, ground := Ground.phase }], guard := none }) (v := ?v8z2) rfl (by kernel_rfl) (by kernel_rfl) (by kernel_rfl) (fun _ _ _ h => h) (Or.inl ⟨by rfl, ?y8z2⟩) (by assumption) ?r8z2
                  case y8z2 => (intro w hSw; (try dsimp only at hSw); go_simp; first | done | with_reducible rfl)
                  try simp only [Act.put, List.setIfInBounds_toArray, List.set_cons_zero, List.set_cons_succ]
                  refine wpAnyH_done (by kernel_rfl) ?_ _
                  have OE := box (show OwnS w6 w0.heap.size v6 (namB (ms.take (k + 1))) from by rw [HPUT.out]; exact Go.Joins.ownsRow_le hO6 hs3)
                  have BE := box (B3.out.trans (B6.out.mono hs3))
                  clear hO6 hb6 hO5 hb5 BS0 BS1 B41 B5 hHeld
                  go_wp2
                  go_roundw
                  case rel => exact ⟨k + 1, by go_num, by rw [HM.out]; omega, HOKK.out, OE.out, BE⟩
                  case measure => simp [intOf]; omega
      · have hki : ¬ (k : Int) < (m : Int) := by omega
        have HYES : Box (okU (allL nmVry L) = true) := box (by rw [HMS.out]; exact okU_yes (by rw [HM.out]; exact hm0) (by rw [HM.out]; omega) HA.out)
        have HE : Box (R = nmsB L) := box (by rw [nmsB_yes HYES.out, HMS.out, ← HR.out, List.take_of_length_le (by rw [HM.out]; omega)])
        have OE := box (show OwnS ws w0.heap.size (.slice oa n oc) (nmsB L) from by rw [← HE.out]; exact O.out)
        go_wp2
        go_ret2
        exact ⟨_, by unfold namesO; rw [HYES.out]; rfl, Go.Joins.ownsRow_le OE.out hs00, B0.out.trans (B1.out.mono hs00)⟩
  · have hmi : (64 : Int) ≤ (m : Int) := by omega
    have HNO : Box (okU (allL nmVry L) = false) := box (okU_long (by rw [hms, hm]; exact hm0))
    clear hms hm
    go_enter Try.func9, Try.ntmps9
    go_wp2_with fail
    refine (rAll19_is (nm := nmVry) S hv hnv hF.out HB).mono ?_; rintro e w0 ⟨p, c, rfl, hS, hb⟩
    have B0 := box hb
    clear hb hS
    go_wp2
    go_ret2
    exact ⟨_, by unfold namesO; rw [HNO.out]; rfl, by rw [nmsB_no HNO.out]; exact OwnS.nil _ _, B0.out⟩
end
section
open Go.Shelf
def laysSort_ren19 : Go.Shelf.Ren := ⟨fun | 190 => 28 | 125 => 44 | 258 => 43 | 128 => 66 | 129 => 67 | 302 => 57 | 303 => 58 | 304 => 59 | 305 => 60 | 306 => 61 | 307 => 62 | 308 => 63 | 309 => 64 | 310 => 65 | 333 => 76 | 329 => 77 | 330 => 78 | 334 => 79 | 335 => 80 | 336 => 81 | 344 => 85 | n => n, fun | 31 => 24 | 9 => 9 | 3 => 3 | 46 => 53 | 0 => 0 | 51 => 71 | 53 => 73 | 4 => 4 | 183 => 64 | 182 => 63 | 131 => 68 | 5 => 5 | 218 => 79 | 222 => 83 | 228 => 94 | 229 => 95 | n => n, fun | n => n⟩
theorem laysSort19 : Go.Proofs.Lays.n190 Try.prog laysSort_ren19 := {
  mixed := by kernel_rfl
  f125 := Try.func44.trans (congrArg some (by kernel_rfl))
  f128 := Try.func66.trans (congrArg some (by kernel_rfl))
  f129 := Try.func67.trans (congrArg some (by kernel_rfl))
  f190 := Try.func28.trans (congrArg some (by kernel_rfl))
  f258 := Try.func43.trans (congrArg some (by kernel_rfl))
  f302 := Try.func57.trans (congrArg some (by kernel_rfl))
  f303 := Try.func58.trans (congrArg some (by kernel_rfl))
  f304 := Try.func59.trans (congrArg some (by kernel_rfl))
  f305 := Try.func60.trans (congrArg some (by kernel_rfl))
  f306 := Try.func61.trans (congrArg some (by kernel_rfl))
  f307 := Try.func62.trans (congrArg some (by kernel_rfl))
  f308 := Try.func63.trans (congrArg some (by kernel_rfl))
  f309 := Try.func64.trans (congrArg some (by kernel_rfl))
  f310 := Try.func65.trans (congrArg some (by kernel_rfl))
  f329 := Try.func77.trans (congrArg some (by kernel_rfl))
  f330 := Try.func78.trans (congrArg some (by kernel_rfl))
  f333 := Try.func76.trans (congrArg some (by kernel_rfl))
  f334 := Try.func79.trans (congrArg some (by kernel_rfl))
  f335 := Try.func80.trans (congrArg some (by kernel_rfl))
  f336 := Try.func81.trans (congrArg some (by kernel_rfl))
  f344 := Try.func85.trans (congrArg some (by kernel_rfl))
  t0 := Try.underlying0
  a0 := Try.isAgg0
  z0 := Try.sizeOf0
  v0 := Try.zeroValue0
  t3 := Try.underlying3
  a3 := Try.isAgg3
  z3 := Try.sizeOf3
  v3 := Try.zeroValue3
  t4 := Try.underlying4
  a4 := Try.isAgg4
  z4 := Try.sizeOf4
  v4 := Try.zeroValue4
  t5 := Try.underlying5
  a5 := Try.isAgg5
  z5 := Try.sizeOf5
  v5 := Try.zeroValue5
  t9 := Try.underlying9
  a9 := Try.isAgg9
  z9 := Try.sizeOf9
  v9 := Try.zeroValue9
  t31 := Try.underlying24
  a31 := Try.isAgg24
  z31 := Try.sizeOf24
  v31 := Try.zeroValue24
  t46 := Try.underlying53
  a46 := Try.isAgg53
  z46 := Try.sizeOf53
  v46 := Try.zeroValue53
  t51 := Try.underlying71
  a51 := Try.isAgg71
  z51 := Try.sizeOf71
  v51 := Try.zeroValue71
  t53 := Try.underlying73
  a53 := Try.isAgg73
  z53 := Try.sizeOf73
  v53 := Try.zeroValue73
  t131 := Try.underlying68
  a131 := Try.isAgg68
  z131 := Try.sizeOf68
  v131 := Try.zeroValue68
  t182 := Try.underlying63
  a182 := Try.isAgg63
  z182 := Try.sizeOf63
  v182 := Try.zeroValue63
  t183 := Try.underlying64
  a183 := Try.isAgg64
  z183 := Try.sizeOf64
  v183 := Try.zeroValue64
  t218 := Try.underlying79
  a218 := Try.isAgg79
  z218 := Try.sizeOf79
  v218 := Try.zeroValue79
  t222 := Try.underlying83
  a222 := Try.isAgg83
  z222 := Try.sizeOf83
  v222 := Try.zeroValue83
  t228 := Try.underlying94
  a228 := Try.isAgg94
  z228 := Try.sizeOf94
  v228 := Try.zeroValue94
  t229 := Try.underlying95
  a229 := Try.isAgg95
  z229 := Try.sizeOf95
  v229 := Try.zeroValue95 }
def laysCompact_ren19 : Go.Shelf.Ren := ⟨fun | 194 => 29 | n => n, fun | 31 => 24 | 9 => 9 | 3 => 3 | 4 => 4 | 0 => 0 | n => n, fun | n => n⟩
theorem laysCompact19 : Go.Proofs.Lays.n194 Try.prog laysCompact_ren19 := {
  mixed := by kernel_rfl
  f194 := Try.func29.trans (congrArg some (by kernel_rfl))
  t0 := Try.underlying0
  a0 := Try.isAgg0
  z0 := Try.sizeOf0
  v0 := Try.zeroValue0
  t3 := Try.underlying3
  a3 := Try.isAgg3
  z3 := Try.sizeOf3
  v3 := Try.zeroValue3
  t4 := Try.underlying4
  a4 := Try.isAgg4
  z4 := Try.sizeOf4
  v4 := Try.zeroValue4
  t9 := Try.underlying9
  a9 := Try.isAgg9
  z9 := Try.sizeOf9
  v9 := Try.zeroValue9
  t31 := Try.underlying24
  a31 := Try.isAgg24
  z31 := Try.sizeOf24
  v31 := Try.zeroValue24 }
/-- slices.Sort at []string -/
theorem sort19_any (blk off cap : Nat) (ss : List (List UInt8)) (w : World) (hH : Go.Sort.Holds encStr w blk off ss.toArray) (hblk : blk < w.heap.size) (hsz : ss.length < 4611686018427387904) :
    Calls Try.prog 28 #[.slice (some ⟨blk, off, none⟩) ss.length cap] w fun e w' =>
      e = .returned (.tuple #[]) ∧ ∃ n os, w' = Go.Sort.grow (Go.Sort.putRow encStr (Go.Sort.ahead w n) blk off (ss.mergeSort fun x y => decide (x ≤ y)).toArray) os :=
  calls_of_every_depth fun D => AnyS.slices_Sort_string_alone laysSort19 D blk off cap ss w hH hblk hsz
theorem sort19_none (a : Option Addr) (cap : Nat) (w : World) :
    Calls Try.prog 28 #[.slice a 0 cap] w fun e w' => e = .returned (.tuple #[]) ∧ w' = w := Any.slices_Sort_string_none laysSort19 a cap w
/-- slices.Compact at []string -/
theorem compact19_any (blk off cap : Nat) (ss : List (List UInt8)) (w : World) (hH : Go.Sort.Holds encStr w blk off ss.toArray) (hsz : ss.length ≤ 9223372036854775807) (hcap : ss.length ≤ cap) :
    Calls Try.prog 29 #[.slice (some ⟨blk, off, none⟩) ss.length cap] w fun e w' =>
      e = .returned (.slice (some ⟨blk, off, none⟩) (Lib.compact ss).length cap) ∧ ∃ q, w' = Go.Sort.putRow encStr (Go.Sort.ahead w q) blk off (Lib.compact ss ++ List.replicate (ss.length - (Lib.compact ss).length) []).toArray :=
  calls_of_every_depth fun D => AnyS.slices_Compact_string_in laysCompact19 D blk off cap ss w hH hsz hcap
theorem compact19_none (a : Option Addr) (cap : Nat) (w : World) :
    Calls Try.prog 29 #[.slice a 0 cap] w fun e w' => e = .returned (.slice a 0 cap) ∧ w' = w :=
  calls_of_every_depth fun D => AnyS.slices_Compact_string_empty_in laysCompact19 D a cap w
end
section
/-- what is kept of the first m places of an ascending row -/
theorem comp_inv {d : Array BL} (hs : ∀ i j : Nat, i ≤ j → j < d.size → d[i]! ≤ d[j]!) : ∀ m : Nat, m ≤ d.size →
    AscU (Lib.compactUpTo d m) ∧ (∀ z, z ∈ Lib.compactUpTo d m ↔ ∃ j, j < m ∧ d[j]! = z) ∧ (∀ z ∈ Lib.compactUpTo d m, ∀ j, m ≤ j + 1 → j < d.size → z ≤ d[j]!)
  | 0, _ => ⟨List.Pairwise.nil, fun z => ⟨fun h => (by cases h), fun ⟨j, hj, _⟩ => (by omega)⟩, fun z h => (by cases h)⟩
  | m + 1, h => by
    obtain ⟨i1, i2, i3⟩ := comp_inv hs m (by omega)
    rw [Lib.compactUpTo_succ]
    by_cases hk : Lib.keeps d m = true
    · rw [if_pos hk]
      have hlt : ∀ z ∈ Lib.compactUpTo d m, z < d[m]! := fun z hz => by
        rcases Nat.eq_zero_or_pos m with rfl | hm
        · cases hz
        · unfold Lib.keeps at hk
          rw [decide_eq_true_eq] at hk
          have hne : d[m]! ≠ d[m - 1]! := hk.resolve_left (by omega)
          have h1 := i3 z hz (m - 1) (by omega) (by omega)
          have h2 := hs (m - 1) m (by omega) (by omega)
          rcases ltB_tri (d[m - 1]!) (d[m]!) with q | q | q
          · rcases ltB_tri z (d[m - 1]!) with p | p | p
            · exact ltB_trans p q
            · rw [p]; exact q
            · exact absurd p (List.not_lt.2 h1)
          · exact absurd q.symm hne
          · exact absurd q (List.not_lt.2 h2)
      refine ⟨?_, fun z => ?_, fun z hz j hj hj2 => ?_⟩
      · unfold AscU
        rw [List.pairwise_append]
        exact ⟨i1, List.pairwise_singleton _ _, fun a ha b hb => by rw [List.mem_singleton.1 hb]; exact hlt a ha⟩
      · rw [List.mem_append, i2, List.mem_singleton]
        constructor
        · rintro (⟨j, hj, e⟩ | rfl)
          · exact ⟨j, by omega, e⟩
          · exact ⟨m, by omega, rfl⟩
        · rintro ⟨j, hj, e⟩
          rcases Nat.lt_or_ge j m with q | q
          · exact .inl ⟨j, q, e⟩
          · have : j = m := by omega
            subst this; exact .inr e.symm
      · rcases List.mem_append.1 hz with q | q
        · exact List.le_trans (i3 z q m (by omega) (by omega)) (hs m j (by omega) hj2)
        · rw [List.mem_singleton.1 q]; exact hs m j (by omega) hj2
    · rw [if_neg hk, List.append_nil]
      have hm : 0 < m := by
        rcases Nat.eq_zero_or_pos m with rfl | hm
        · exact absurd (by unfold Lib.keeps; simp) hk
        · exact hm
      have he : d[m]! = d[m - 1]! := by
        unfold Lib.keeps at hk
        rw [decide_eq_true_eq] at hk
        exact Classical.byContradiction fun e => hk (.inr e)
      refine ⟨i1, fun z => ?_, fun z hz j hj hj2 => i3 z hz j (by omega) hj2⟩
      rw [i2]
      constructor
      · rintro ⟨j, hj, e⟩; exact ⟨j, by omega, e⟩
      · rintro ⟨j, hj, e⟩
        rcases Nat.lt_or_ge j m with q | q
        · exact ⟨j, q, e⟩
        · have : j = m := by omega
          subst this; exact ⟨j - 1, by omega, by rw [← he]; exact e⟩
/-- sorted, then compacted -/
theorem comp_sort (ls : List BL) : AscU (Lib.compact (ls.mergeSort fun x y => decide (x ≤ y))) ∧ ∀ z, z ∈ Lib.compact (ls.mergeSort fun x y => decide (x ≤ y)) ↔ z ∈ ls := by
  have hsort : (ls.mergeSort fun x y => decide (x ≤ y)).Pairwise (fun x y => decide (x ≤ y) = true) :=
    List.pairwise_mergeSort (fun a b c h1 h2 => by simp only [decide_eq_true_eq] at *; exact List.le_trans h1 h2)
      (fun a b => by
        rw [Bool.or_eq_true, decide_eq_true_eq, decide_eq_true_eq]
        exact List.le_total a b) ls
  obtain ⟨ss, hss⟩ : ∃ ss, (ls.mergeSort fun x y => decide (x ≤ y)) = ss := ⟨_, rfl⟩
  have hmem : ∀ z, z ∈ ss ↔ z ∈ ls := fun z => by rw [← hss]; exact (List.mergeSort_perm ls _).mem_iff
  rw [hss] at hsort ⊢
  have hget : ∀ j (hj : j < ss.length), ss.toArray[j]! = ss[j] := fun j hj => by simp [hj]
  have hs : ∀ i j : Nat, i ≤ j → j < ss.toArray.size → ss.toArray[i]! ≤ ss.toArray[j]! := fun i j hij hj => by
    have hj' : j < ss.length := by simpa using hj
    rw [hget i (by omega), hget j hj']
    rcases Nat.lt_or_ge i j with q | q
    · have := List.pairwise_iff_getElem.1 hsort i j (by omega) hj' q
      simpa using this
    · have : i = j := by omega
      subst this; exact List.le_refl _
  obtain ⟨h1, h2, _⟩ := comp_inv hs ss.length (by simp)
  refine ⟨h1, fun z => ?_⟩
  unfold Lib.compact
  rw [h2, ← hmem, List.mem_iff_getElem]
  constructor
  · rintro ⟨j, hj, e⟩; exact ⟨j, hj, by rw [← hget j hj]; exact e⟩
  · rintro ⟨j, hj, e⟩; exact ⟨j, hj, by rw [hget j hj]; exact e⟩
/-- the names in lower case, sorted and compacted, are the names -/
theorem comp_names (ms : List BL) : Lib.compact ((ms.map lowL).mergeSort fun x y => decide (x ≤ y)) = namesU ms := by
  obtain ⟨h1, h2⟩ := comp_sort (ms.map lowL)
  refine ascU_ext h1 (namesU_asc ms) (fun z => ?_)
  rw [h2, namesU_mem, List.mem_map]
end
section
open Go.RowKit Go.Sort
def lowY (ms : List BL) : List ByteArray := ms.map fun m => bs (lowL m)
def srt (ms : List BL) : List BL := (ms.map lowL).mergeSort fun x y => decide (x ≤ y)
theorem lowY_len (ms : List BL) : (lowY ms).length = ms.length := by unfold lowY; rw [List.length_map]
theorem lowY_more {ms : List BL} {k : Nat} (h : k < ms.length) : lowY (ms.take (k + 1)) = lowY (ms.take k) ++ [bs (lowL ms[k])] := by
  unfold lowY
  rw [List.take_succ_eq_append_getElem h, List.map_append]; rfl
theorem lowY_enc (ms : List BL) : (lowY ms).map Value.string = (ms.map lowL).map encStr := by
  unfold lowY
  rw [List.map_map, List.map_map]; rfl
theorem namB_enc (ms : List BL) : (namB ms).map Value.string = (namesU ms).map encStr := by
  unfold namB
  rw [List.map_map]; rfl
theorem srt_len (ms : List BL) : (srt ms).length = ms.length := by unfold srt; rw [List.length_mergeSort, List.length_map]
/-- the list is sorted where it lies -/
def Srt (w : World) (B g m cap : Nat) (ms : List BL) (w' : World) : Prop :=
  Holds encStr w' g 0 (srt ms).toArray ∧ w'.ownsRow B 9 1 (.slice (some ⟨g, 0, none⟩) m cap) m ((srt ms).map encStr) ∧ B ≤ g ∧ m ≤ cap ∧ B ≤ w'.heap.size ∧ Below B w w'
theorem sort19_is {B g cap m : Nat} {ms : List BL} {w : World} (hO : OwnS w B (.slice (some ⟨g, 0, none⟩) m cap) (lowY ms)) (hm : Box (ms.length = m)) (h6 : m ≤ 64) :
    Calls Try.prog 28 #[.slice (some ⟨g, 0, none⟩) m cap] w fun e w' => e = .returned (.tuple #[]) ∧ Srt w B g m cap ms w' := by
  have hl : (ms.map lowL).length = m := by rw [List.length_map]; exact hm.out
  have ho : w.ownsRow B 9 1 (.slice (some ⟨g, 0, none⟩) m cap) m ((ms.map lowL).map encStr) := by
    have := hO
    unfold OwnS at this
    rw [lowY_len, hm.out, lowY_enc] at this; exact this
  obtain ⟨g2, cap2, e, hB, hg, hc, hcm, _, hH⟩ := Lib.holds_of_ownsRow ho (by intro e; cases e)
  injection e with e1 e2 e3
  injection e1 with e1
  injection e1 with e1
  subst e1; subst e3
  have h := sort19_any g 0 cap (ms.map lowL) w hH hg (by omega)
  rw [hl] at h
  refine h.mono ?_
  rintro e w' ⟨rfl, nn, os, rfl⟩
  have hsl : (srt ms).length = (ms.map lowL).length := by rw [srt_len, List.length_map]
  rcases ho.2 with ⟨h0, _⟩ | ⟨g', cap', cur, hv, hbase, hb, h1, h2, h3, h4⟩
  · cases h0
  cases hv
  refine ⟨rfl, ?_, ?_, hB, hc, by simp [grow, putRow, mapBlock, Sort.ahead]; omega, ?_⟩
  · exact holds_grow encStr _ os g 0 _ (by simpa [putRow, mapBlock, Sort.ahead] using hg) (holds_putRow encStr _ g 0 _ _ (holds_ahead encStr w nn g 0 _ hH) (by simp))
  · have := ownsRow_sorted (n := nn) (os := os) (ss := ms.map lowL) (ts := srt ms) hsl hbase hb (by rw [hl]; exact h1) h2 h3
    rw [hl] at this; exact this
  · exact (Below.refl _ _).grown (grownBy_sorted _) (by omega) (fun j hj => by cases hj; exact hbase)
theorem compact19_is {B g cap m : Nat} {ms : List BL} {w0 w : World} (hS : Srt w0 B g m cap ms w) (hm : Box (ms.length = m)) (h6 : m ≤ 64) :
    Calls Try.prog 29 #[.slice (some ⟨g, 0, none⟩) m cap] w fun e w' => ∃ v, e = .returned v ∧ OwnS w' B v (namB ms) ∧ Below B w0 w' := by
  obtain ⟨hH, ho, hB, hc, hsz, hbel⟩ := hS
  have hl : (srt ms).length = m := by rw [srt_len]; exact hm.out
  have h := compact19_any g 0 cap (srt ms) w hH (by omega) (by omega)
  rw [hl] at h
  refine h.mono ?_
  rintro e w' ⟨rfl, q, rfl⟩
  have hcn : Lib.compact (srt ms) = namesU ms := comp_names ms
  have hle : (namesU ms).length ≤ m := by rw [← hm.out]; exact namesU_len ms
  rw [hcn]
  refine ⟨_, rfl, ?_, Lib.below_putRow hbel hB⟩
  have := Lib.ownsRow_putRow (q := q) (k := (namesU ms).length) (ys := namesU ms ++ List.replicate (m - (namesU ms).length) []) ho (by simp; omega) hle
  rw [List.take_left] at this
  unfold OwnS
  rw [namB_enc]
  have hnl : (namB ms).length = (namesU ms).length := by unfold namB; rw [List.length_map]
  rw [hnl]; exact this
end
section
open Go.RowKit
theorem mTok19_is {s : ByteArray} {b : Bool} {w : World} (hs : s.size ≤ 65000) (h : Box (tokL s.data.toList = b)) :
    Calls Try.prog 26 #[.string s] w fun e w' => e = .returned (.bool b) ∧ w = w' :=
  (Token_any s w (by unfold maxLen; omega)).mono fun e w' ⟨h1, h2⟩ => ⟨by rw [h1, h.out], h2⟩
/-- the first k members in lower case -/
def LwRel (ms : List BL) (W : World) (v i : Value) (wr : World) : Prop :=
  ∃ k : Nat, i = .int .i64 k ∧ k ≤ ms.length ∧ (ms.take k).all okM = true ∧ OwnS wr W.heap.size v (lowY (ms.take k)) ∧ Box (Below W.heap.size W wr)
set_option maxHeartbeats 4000000 in
theorem mNames_any (a : Option Addr) (cap : Nat) (L : List F) (w : World) (S : Box (Sm L)) (hv : Box (∀ x ∈ getL nmVry L, x.size ≤ 65000)) (hF : Box (Fs w a L)) :
    Calls Try.prog 8 #[.slice a L.length cap] w fun e w' => NamesY w L e w' := by
  obtain ⟨ms, hms⟩ : ∃ ms, allL nmVry L = ms := ⟨_, rfl⟩
  have HMS := box hms
  obtain ⟨m, hm⟩ : ∃ m, ms.length = m := ⟨_, rfl⟩
  have HB : Box ((allB nmVry L).length = m) := box (by unfold allB; rw [List.length_map, hms, hm])
  have HZ := box (allB_mem19 hv.out)
  have hnv : nmVry.size ≤ 65536 := by decide
  by_cases hm0 : m < 64
  · have HM := box hm
    clear hms hm
    go_enter Try.func8, Try.ntmps8
    go_wp2_with fail
    refine (mAll19_is (nm := nmVry) S hv hnv hF.out HB).mono ?_; rintro e w0 ⟨p, c, rfl, hc, hS, hb⟩
    have B0 := box hb
    have S0 := box hS
    have hs00 := hb.size
    clear hb hS
    go_wp2_with fail
    refine (complete_yes hm0).mono ?_; rintro e w0 ⟨rfl, rfl⟩
    go_wp2
    go_loopw [5, 15] (fun v i wr => LwRel ms w0 v i wr) (fun _ i _ => m - (intOf i).toNat)
    case atStart => exact ⟨0, rfl, Nat.zero_le _, rfl, OwnS.nil _ _, box (Below.refl _ _)⟩
    case round =>
      obtain ⟨k, rfl, hk, hall, hO, B1⟩ := hrel
      obtain ⟨ws, rfl⟩ : ∃ ws, ws = wr := ⟨_, rfl⟩
      have HA := box hall
      have O := box hO
      have hs1 := B1.out.size
      rw [HM.out] at hk
      have HL6 : Box ((lowY (ms.take k)).length ≤ 65536) := box (by rw [lowY_len, List.length_take]; omega)
      by_cases hkm : k < m
      · have hki : (k : Int) < (m : Int) := by omega
        have hk0 : (0 : Int) ≤ (k : Int) := by omega
        have HKL := box (show k < ms.length by rw [HM.out]; exact hkm)
        obtain ⟨x, hx⟩ : ∃ x, bs (ms[k]'HKL.out) = x := ⟨_, rfl⟩
        have hkb : k < (allB nmVry L).length := by rw [HB.out]; exact hkm
        have hx2 : (allB nmVry L)[k] = x := by
          rw [← hx]
          simp only [allB, List.getElem_map]
          congr 1
          simp only [HMS.out]
        obtain ⟨g, off, rfl, c0⟩ := (S0.out.below B1.out) k hkb
        rw [hx2] at c0
        have hxz : x.size ≤ 65000 := by rw [← hx2]; exact HZ.out _ (List.getElem_mem hkb)
        obtain ⟨tb, htb⟩ : ∃ tb, tokL x.data.toList = tb := ⟨_, rfl⟩
        have HTB := box htb
        obtain ⟨sb, hsb⟩ : ∃ sb, decide (x.data.toList = [42]) = sb := ⟨_, rfl⟩
        have hst := star19_is x sb hsb
        have HOK : Box (okM (ms[k]'HKL.out) = (tb && !sb)) := box (by rw [← htb, ← hsb, ← hx]; unfold okM; rw [bs_toList, decide_not])
        clear hsb htb hall hO
        cases sb with
        | true =>
          have HNO : Box (okU (allL nmVry L) = false) := box (by rw [HMS.out]; exact okU_no HKL.out (by rw [HOK.out]; cases tb <;> rfl))
          clear hx hx2 hkb
          go_wp2
          go_ret2
          exact ⟨_, by unfold namesO; rw [HNO.out]; rfl, by rw [nmsB_no HNO.out]; exact OwnS.nil _ _, B0.out.trans (B1.out.mono hs00)⟩
        | false =>
          cases tb with
          | false =>
            have HNO : Box (okU (allL nmVry L) = false) := box (by rw [HMS.out]; exact okU_no HKL.out (by rw [HOK.out]; rfl))
            clear hx hx2 hkb
            go_wp2_with fail
            refine (mTok19_is hxz HTB).mono ?_; rintro e w2 ⟨rfl, rfl⟩
            go_wp2
            go_ret2
            exact ⟨_, by unfold namesO; rw [HNO.out]; rfl, by rw [nmsB_no HNO.out]; exact OwnS.nil _ _, B0.out.trans (B1.out.mono hs00)⟩
          | true =>
            have HOKK : Box ((ms.take (k + 1)).all okM = true) := box (okM_more HKL.out HA.out (by rw [HOK.out]; rfl))
            obtain ⟨y, hy⟩ : ∃ y, bs (lowL x.data.toList) = y := ⟨_, rfl⟩
            have HY := box hy
            have HMORE : Box (lowY (ms.take (k + 1)) = lowY (ms.take k) ++ [y]) := box (by rw [lowY_more HKL.out, ← hy, ← hx]; rfl)
            clear hx hx2 hkb hy
            go_wp2_with fail
            refine (mTok19_is hxz HTB).mono ?_; rintro e w2 ⟨rfl, rfl⟩
            go_wp2_with fail
            refine (mLow19_is (by omega) HY).mono ?_; rintro e w3 ⟨rfl, hb3⟩
            have B3 := box (B1.out.trans (hb3.mono hs1))
            have O3 := box (own_below O.out hb3)
            have hs3 := B3.out.size
            clear hb3 c0
            go_wp2_with (at_builtin; refine wpList_append_str _ rfl (.tmp 26) (.tmp 29) rfl w0.heap.size _ (lowY (ms.take k)) rfl ?a1 _ _ rfl y ?b1 ?c1 ?d1 ?_)
            case a1 => exact own_below O3.out (below_new _ _)
            case b1 => go_simp
            case c1 => exact HL6.out
            case d1 => simp; omega
            intro v2 w4 hO2 hb2
            have O4 := box hO2
            have B4 := box ((B3.out.alloc B3.out.size _).trans hb2)
            clear hO2 hb2
            go_wp2
            go_roundw
            case rel => exact ⟨k + 1, by go_num, by rw [HM.out]; omega, HOKK.out, by rw [HMORE.out]; exact O4.out, B4⟩
            case measure => simp [intOf]; omega
      · have hki : ¬ (k : Int) < (m : Int) := by omega
        have HE : Box (lowY (ms.take k) = lowY ms) := box (by rw [List.take_of_length_le (by rw [HM.out]; omega)])
        have HYES : Box (okU (allL nmVry L) = true) := box (by rw [HMS.out]; exact okU_yes (by rw [HM.out]; exact hm0) (by rw [HM.out]; omega) HA.out)
        have HNB : Box (nmsB L = namB ms) := box (by rw [nmsB_yes HYES.out, HMS.out])
        rw [HE.out] at hO
        have OE := box hO
        clear O hO HL6 hall
        have hlm : (lowY ms).length = m := by rw [lowY_len]; exact HM.out
        by_cases hmz : m = 0
        · subst hmz
          obtain ⟨oa, oc, rfl, _, _⟩ := OE.out.ss
          rw [hlm] at OE ⊢
          have HN0 : Box (nmsB L = []) := box (by
            rw [HNB.out]
            have := namB_len ms
            exact List.length_eq_zero_iff.1 (by rw [HM.out] at this; omega))
          have HL0 : Box (lowY ms = []) := box (List.length_eq_zero_iff.1 hlm)
          have ON := box (show OwnS ws w0.heap.size (.slice oa 0 oc) (nmsB L) from by rw [HN0.out, ← HL0.out]; exact OE.out)
          clear hlm
          go_wp2_with fail
          refine (sort19_none oa oc _).mono ?_; rintro e w2 ⟨rfl, rfl⟩
          go_wp2_with fail
          refine (compact19_none oa oc _).mono ?_; rintro e w3 ⟨rfl, rfl⟩
          go_wp2
          go_ret2
          exact ⟨_, by unfold namesO; rw [HYES.out]; rfl, Go.Joins.ownsRow_le ON.out hs00, B0.out.trans (B1.out.mono hs00)⟩
        · rcases OE.out.2 with ⟨hv0, h0⟩ | ⟨g, oc, cur, rfl, hbase, hgb, _⟩
          · exact absurd (hlm.symm.trans h0) hmz
          rw [hlm] at OE ⊢
          clear hgb hlm
          go_wp2_with fail
          refine (sort19_is OE.out HM (by omega)).mono ?_; rintro e w2 ⟨rfl, hS2⟩
          have S2 := box hS2
          clear hS2
          go_wp2_with fail
          refine (compact19_is S2.out HM (by omega)).mono ?_; rintro e w3 ⟨v3, rfl, hO3, hb3⟩
          have ON := box (show OwnS w3 w0.heap.size v3 (nmsB L) from by rw [HNB.out]; exact hO3)
          have B3 := box (B1.out.trans hb3)
          clear hO3 hb3
          go_wp2
          go_ret2
          exact ⟨_, by unfold namesO; rw [HYES.out]; rfl, Go.Joins.ownsRow_le ON.out hs00, B0.out.trans (B3.out.mono hs00)⟩
  · have HNO : Box (okU (allL nmVry L) = false) := box (okU_long (by rw [hms, hm]; exact hm0))
    clear hms hm
    go_enter Try.func8, Try.ntmps8
    go_wp2_with fail
    refine (mAll19_is (nm := nmVry) S hv hnv hF.out HB).mono ?_; rintro e w0 ⟨p, c, rfl, hc, hS, hb⟩
    have B0 := box hb
    clear hb hS
    go_wp2_with fail
    refine (complete_no hm0).mono ?_; rintro e w0 ⟨rfl, rfl⟩
    go_wp2
    go_ret2
    exact ⟨_, by unfold namesO; rw [HNO.out]; rfl, by rw [nmsB_no HNO.out]; exact OwnS.nil _ _, B0.out⟩
end
section
open Go.RowKit
/-- all blocks but b that hold no bytes are as they were -/
def KeepU (b : Nat) (w w' : World) : Prop := ∀ k cs T fr, k ≠ b → T ≠ 5 → w.heap[k]? = some (.cells cs T fr) → w'.heap[k]? = some (.cells cs T fr)
theorem KeepU.refl (b : Nat) (w : World) : KeepU b w w := fun _ _ _ _ _ _ h => h
theorem KeepU.trans {b : Nat} {w w1 w2 : World} (h1 : KeepU b w w1) (h2 : KeepU b w1 w2) : KeepU b w w2 := fun k cs T fr hk hT h => h2 k cs T fr hk hT (h1 k cs T fr hk hT h)
theorem KeepU.below {b : Nat} {w w' : World} (h : Below w.heap.size w w') : KeepU b w w' := fun k cs T fr _ _ hk => (h.block k (blk_lt hk)).trans hk
def BldV (w : World) (B b : Nat) (p v : Value) (l : List UInt8) : Prop :=
  B ≤ b ∧ w.heap[b]? = some (.cells #[p, v] 87 (0, 0)) ∧ w.ownsRow B 5 1 v (Lib.byteCells l).length (Lib.byteCells l) ∧ v.ownBlock ≠ some b ∧ (v = .slice none 0 0 ↔ l = [])
/-- the builder of block b, made by the call itself and never grown: its bytes l -/
def BldZ (w : World) (B b : Nat) (l : List UInt8) : Prop := ∃ p v, (p = .pointer none ∨ p = .pointer (some ⟨b, 0, none⟩)) ∧ BldV w B b p v l
theorem BldV.at {w : World} {B b : Nat} {p v : Value} {l : List UInt8} (h : BldV w B b p v l) : BldAt w B b p l := ⟨h.1, v, h.2.1, h.2.2.1, h.2.2.2.1⟩
theorem BldZ.lt {w : World} {B b : Nat} {l : List UInt8} (h : BldZ w B b l) : b < w.heap.size := by
  obtain ⟨p, v, hp, hV⟩ := h
  exact blk_lt hV.2.1
end
section
open Go.RowKit
theorem fs_two13 (a b c d : ByteArray) (w : World) (t : TypeId) : Fs (w.alloc (.cells #[.string a, .string b, .string c, .string d] t)) (some ⟨w.heap.size, 0, none⟩) [(a, b), (c, d)] := by
  intro i hi
  refine ⟨w.heap.size, 0, rfl, ?_, ?_⟩
  all_goals
    rw [World.cell?_alloc_mark]
    match i, hi with
    | 0, _ => rfl
    | 1, _ => rfl
end
end Go.Proofs.Ytlhcccakiidbdaa.Asc
