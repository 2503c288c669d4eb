/- Merged texts: VarFmtM VarLaws VarLaws3. -/
import Derived.Test.YtodbmdekgfcjpaaM01
import Derived.Test.YtodbmdekgfcjpaaM03
import Derived.Test.YtodbmdekgfcjpaaM07
import Derived.Test.YtodbmdekgfcjpaaM08
import Derived.Test.YtodbmdekgfcjpaaM09
import Derived.Test.YtodbmdekgfcjpaaM10
import Derived.Test.YtodbmdekgfcjpaaM12
import Derived.Test.YtodbmdekgfcjpaaM13
import Derived.Test.YtodbmdekgfcjpaaM14
import Derived.Lib.Hide
import Derived.LoopTactic
set_option linter.unusedVariables false
set_option linter.unusedSimpArgs false
set_option maxRecDepth 100000
namespace Go.Proofs.Ytodbmdekgfcjpaa.Asc
section
open Go.RowKit
/-- an own slice of strings does not lie in a block of cells of an axis -/
theorem own_apart {w : World} {B n G : Nat} {v : Value} {xs : List Value} {cs : Array Value} {fr : Nat × Nat} (h : w.ownsRow B 9 1 v n xs) (hG : w.heap[G]? = some (.cells cs 55 fr)) : v.ownBlock ≠ some G := by
  rcases h.2 with ⟨rfl, _⟩ | ⟨g, cap, cur, rfl, hB, hg, r⟩
  · simp [Value.ownBlock]
  · intro e
    simp [Value.ownBlock] at e
    subst e
    rw [hG] at hg
    simp at hg
/-- append of a string; a block of cells of an axis stays -/
theorem step_append_strA (w : World) {ops : Array Oper} {o : Oper} {a : Act} {K : Act → World → Prop} {Q : Exit → Act → World → Prop} {E : Prop} (hgd : o.guard = none) (s x : Operand)
    (ho : o.op = .call { callee := .builtin .append, args := #[s, x], argTypes := #[52, 52] })
    (B : Nat) (v : Value) (L : List ByteArray) (hs : a.eval s = v) (hown : OwnS w B v L)
    (g : Nat) (c : Nat) (hx : a.eval x = .slice (some ⟨g, 0, none⟩) 1 c) (u : ByteArray) (h0 : w.cell? ⟨g, 0, none⟩ = some (.string u)) (hl : L.length ≤ 65536) (hB : B ≤ w.heap.size)
    (G : Nat) (cs : Array Value) (fr : Nat × Nat) (hG : w.heap[G]? = some (.cells cs 55 fr))
    (h : ∀ v' w', OwnS w' B v' (L ++ [u]) → Below B w w' → w'.heap[G]? = some (.cells cs 55 fr) → K (a.put o.dst v') w') :
    if Region.wanted o (yielded ops a.tmps) = true then Oper.wp Try.prog o a w K Q else E := by
  obtain ⟨i0, hi0, hz0, hz1, hz2⟩ := info_parts info_str
  refine step_append_lies (P := Try.prog) w hgd s x 52 ho B 9 i0 _ 1 16 Try.underlying52 hi0 hz0 hz1 hz2 rfl (by decide) v L.length (L.map Value.string) hs hown ⟨g, 0, none⟩ 1 c [.string u] hx rfl ?_ ?_ (by omega) (by unfold maxLen; omega) (by omega) hB _ rfl ?_
  · intro j u hj
    match j, hj with
    | 0, hj => simp at hj; subst hj; simpa [Addr.add] using h0
  · intro u hu; simp at hu; subst hu; rfl
  · intro g' cap' w' q1 q2 _ _
    refine h _ w' (by simpa [OwnS] using q1) ((Below.refl _ _).grown q2 hB (fun k hk => own_block hown k hk)) ?_
    rw [q2.block G (heap_lt hG) (fun e => own_apart hown hG e.symm)]
    exact hG
/-- the texts of the first k axes -/
def axB (L : List AX) (k : Nat) : List ByteArray := (L.take k).map fun x => bs (axisL x)
theorem axB_len {L : List AX} {k : Nat} (h : k ≤ L.length) : (axB L k).length = k := by unfold axB; rw [List.length_map, List.length_take, Nat.min_eq_left h]
def AfRel (L : List AX) (W : World) (v i : Value) (wr : World) : Prop :=
  ∃ k : Nat, i = .int .i64 k ∧ k ≤ L.length ∧ OwnS wr W.heap.size v (axB L k) ∧ Below W.heap.size W wr
theorem vJoin_is {a : Option Addr} {cap n : Nat} {L : List ByteArray} {x : ByteArray} {w : World} (hn : Box (L.length = n)) (hl : n ≤ 65536) (hc : n ≤ cap) (hz : Box (∀ x ∈ L, x.size ≤ 65536)) (hF : Box (Ss w a L)) (hx : Box (joinB L = x)) :
    Calls Try.prog 25 #[.slice a n cap] w fun e w' => e = .returned (.string x) ∧ Below w.heap.size w w' := by
  have h := hn.out
  subst h
  exact (mJoin_any a cap L w hl hc hz hF).mono fun e w' ⟨h1, h2⟩ => ⟨by rw [h1, hx.out], h2⟩
theorem axis_cells {w : World} {G : Nat} {u v : Value} (h : w.heap[G]? = some (.cells #[u, v] 55)) : w.cell? ⟨G, 0, none⟩ = some u ∧ w.cell? ⟨G, 1, none⟩ = some v := by
  refine ⟨?_, ?_⟩
  · rw [Lib.cell_of_heap h]; rfl
  · rw [Lib.cell_of_heap h]; rfl
set_option maxHeartbeats 4000000 in
theorem mFmtV_any (a : Option Addr) (cap : Nat) (L : List AX) (w : World) (hl : L.length ≤ 65536) (hz : Box (fitX L)) (hF : Box (Axs w a L)) :
    Calls Try.prog 15 #[.slice a L.length cap] w fun e w' => e = .returned (.string (fmtV L)) ∧ Below w.heap.size w w' := by
  obtain ⟨q, hq⟩ : ∃ q, validX L = q := ⟨_, rfl⟩
  have HQ := box hq
  have HSM : Box (smallA L) := box hz.out.small
  cases q with
  | false =>
    have HV : Box (fmtV L = ⟨#[]⟩) := box (by unfold fmtV; rw [hq]; rfl)
    clear hq
    go_enter Try.func15, Try.ntmps15
    go_wp2_with fail
    refine (mValid_is hl HSM hF HQ).mono ?_; rintro e w1 ⟨rfl, hb1⟩
    have B1 := box hb1
    clear hb1
    go_wp2
    go_ret
    exact ⟨by rw [HV.out]; rfl, B1.out⟩
  | true =>
    have HV : Box (fmtV L = axesB L) := box (by unfold fmtV; rw [hq]; rfl)
    clear hq
    go_enter Try.func15, Try.ntmps15
    go_wp2_with fail
    refine (mValid_is hl HSM hF HQ).mono ?_; rintro e W1 ⟨rfl, hb1⟩
    have B1 := box hb1
    have F1 := box (hF.out.below hb1)
    clear hb1
    go_wp2
    go_loopw [3, 11] (fun v i wr => AfRel L W1 v i wr) (fun _ i _ => L.length - (intOf i).toNat)
    case atStart => exact ⟨0, rfl, Nat.zero_le _, OwnS.nil _ _, Below.refl _ _⟩
    case round =>
      obtain ⟨k, rfl, hk, hO, hbel⟩ := hrel
      have O0 := box hO
      have BL := box hbel
      have hs0 := hbel.size
      obtain ⟨av, cv, rfl, hss0, hcv⟩ := hO.ss
      rw [axB_len hk] at O0 hcv ⊢
      have SS0 := box hss0
      clear hO hbel hss0
      by_cases hlt : k < L.length
      · have hki : (k : Int) < (L.length : Int) := by omega
        have hk0 : (0 : Int) ≤ (k : Int) := by omega
        obtain ⟨g, off, v, rfl, c0, c1, b, c, rfl, hss, _⟩ := (F1.out.below BL.out) k hlt
        obtain ⟨z1, z2, z3⟩ := hz.out k hlt
        obtain ⟨n, hn⟩ : ∃ n, L[k].1 = n := ⟨_, rfl⟩
        obtain ⟨V, hV⟩ : ∃ V, L[k].2 = V := ⟨_, rfl⟩
        rw [hn] at c0 z1
        rw [hV] at c1 hss z2 z3
        have BN := box (below_new wr (.cells #[.string n, .slice b V.length c] 55))
        have HNW := box (heap_alloc_new wr (.cells #[.string n, .slice b V.length c] 55))
        have SS := box (hss.below BN.out)
        have Z3 := box z3
        have BL2 := box (BL.out.trans (BN.out.mono hs0))
        have O1 := box (own_below O0.out BN.out)
        obtain ⟨x, hx⟩ : ∃ x, bs (writL (V.map fun v => v.data.toList)) = x := ⟨_, rfl⟩
        have hxz : x.size ≤ 41000 := by rw [← hx, bs_size]; exact writ_len z2 z3
        have HX := box hx
        have r1 : ∀ w, (Op.stringOp .add n ⟨#[61]⟩).run Try.prog w = .ok (.string (n ++ ⟨#[61]⟩)) w := fun w => run_string_add_sum w _ _ (by show n.size + 1 ≤ 9223372036854775807; omega)
        have r2 : ∀ w, (Op.stringOp .add (n ++ ⟨#[61]⟩) x).run Try.prog w = .ok (.string (n ++ ⟨#[61]⟩ ++ x)) w := fun w => run_string_add_sum w _ _ (by rw [ByteArray.size_append]; show n.size + 1 + x.size ≤ 9223372036854775807; omega)
        have HT : Box (axB L (k + 1) = axB L k ++ [n ++ ⟨#[61]⟩ ++ x]) := box (by
          unfold axB
          rw [take_next hlt, List.map_append]
          congr 1
          rw [List.map_cons, List.map_nil]
          congr 1
          rw [bs_of (n ++ ⟨#[61]⟩ ++ x)]
          congr 1
          rw [ByteArray.data_append, ByteArray.data_append, Array.toList_append, Array.toList_append]
          unfold axisL
          rw [hn, hV, ← hx]
          simp [bs])
        have hlen : Box ((axB L k).length ≤ 65536) := box (by rw [axB_len hk]; omega)
        have hd0 := axis_cells HNW.out
        clear hss z3 hn hV hx
        go_wp2
        refine wp_region_held_drew (S := (fun w' : World => (w'.cell? ⟨wr.heap.size, 0, none⟩ = some (.string n) ∧ w'.cell? ⟨wr.heap.size, 1, none⟩ = some (.slice b V.length c)) ∧ Box (Below W1.heap.size W1 w' ∧ w'.heap[wr.heap.size]? = some (.cells #[.string n, .slice b V.length c] 55)))) (by kernel_rfl) ⟨⟨hd0.1, hd0.2⟩, box ⟨BL2.out.drew, HNW.out⟩⟩ (fun hHeld => ?_)
        refine wpAnyH_take (i := 0) (oi := { dst := some 15, op := Op.move (Operand.tmp 3), type := 52, pos := "variants.go:48", after := #[], guard := none }) (v := ?v0z1) rfl (by kernel_rfl) (by kernel_rfl) (by kernel_rfl) (fun _ _ _ h => h) (Or.inl ⟨by rfl, ?y0z1⟩) (by assumption) ?r0z1
        case y0z1 => (intro w hSw; (try dsimp only at hSw); go_simp; first | done | with_reducible rfl)
        try simp only [Act.put, List.setIfInBounds_toArray, List.set_cons_zero, List.set_cons_succ]
        refine wpAnyH_take (i := 1) (oi := { dst := some 16, op := Op.fieldAddr 55 (Operand.tmp 5) 0, type := 0, pos := "variants.go:48", after := #[], guard := none }) (v := ?v1z1) rfl (by kernel_rfl) (by kernel_rfl) (by kernel_rfl) (fun _ _ _ h => h) (Or.inl ⟨by rfl, ?y1z1⟩) (by assumption) ?r1z1
        case y1z1 => (intro w hSw; (try dsimp only at hSw); go_simp; first | done | with_reducible rfl)
        try simp only [Act.put, List.setIfInBounds_toArray, List.set_cons_zero, List.set_cons_succ]
        refine wpAnyH_take (i := 2) (oi := { dst := some 17, op := Op.load 9 (Operand.tmp 16), type := 9, pos := "variants.go:48", after := #[{ on := 1, ground := Ground.data }], guard := none }) (v := ?v2z1) rfl (by kernel_rfl) (by kernel_rfl) (by kernel_rfl) (fun _ _ _ h => h) (Or.inl ⟨by rfl, ?y2z1⟩) (by assumption) ?r2z1
        case y2z1 => (intro w hSw; (try dsimp only at hSw); go_simp; first | done | with_reducible rfl)
        try simp only [Act.put, List.setIfInBounds_toArray, List.set_cons_zero, List.set_cons_succ]
        refine wpAnyH_take (i := 3) (oi := { dst := some 18, op := Op.binOp BinOp.add 9 (Operand.tmp 17) (Operand.const (Value.string { data := #[61] })) 9, type := 9, pos := "variants.go:48", after := #[{ on := 2, ground := Ground.data }], guard := none }) (v := ?v3z1) rfl (by kernel_rfl) (by kernel_rfl) (by kernel_rfl) (fun _ _ _ h => h) (Or.inl ⟨by rfl, ?y3z1⟩) (by assumption) ?r3z1
        case y3z1 => (intro w hSw; (try dsimp only at hSw); go_simp; first | done | with_reducible rfl)
        try simp only [Act.put, List.setIfInBounds_toArray, List.set_cons_zero, List.set_cons_succ]
        refine wpAnyH_take (i := 4) (oi := { dst := some 19, op := Op.fieldAddr 55 (Operand.tmp 5) 1, type := 0, pos := "variants.go:48", after := #[], guard := none }) (v := ?v4z1) rfl (by kernel_rfl) (by kernel_rfl) (by kernel_rfl) (fun _ _ _ h => h) (Or.inl ⟨by rfl, ?y4z1⟩) (by assumption) ?r4z1
        case y4z1 => (intro w hSw; (try dsimp only at hSw); go_simp; first | done | with_reducible rfl)
        try simp only [Act.put, List.setIfInBounds_toArray, List.set_cons_zero, List.set_cons_succ]
        refine wpAnyH_take (i := 5) (oi := { dst := some 20, op := Op.load 52 (Operand.tmp 19), type := 52, pos := "variants.go:48", after := #[{ on := 4, ground := Ground.data }], guard := none }) (v := ?v5z1) rfl (by kernel_rfl) (by kernel_rfl) (by kernel_rfl) (fun _ _ _ h => h) (Or.inl ⟨by rfl, ?y5z1⟩) (by assumption) ?r5z1
        case y5z1 => (intro w hSw; (try dsimp only at hSw); go_simp; first | done | with_reducible rfl)
        try simp only [Act.put, List.setIfInBounds_toArray, List.set_cons_zero, List.set_cons_succ]
        refine wpAnyH_ready (rs := [6]) (by kernel_rfl) (by simp) ?_
        refine AllReadyH.cons (o := { dst := some 21, op := Op.call { callee := Callee.value (Operand.func 24), args := #[Operand.tmp 20], argTypes := #[52] }, type := 9, pos := "variants.go:48", after := #[{ on := 5, ground := Ground.data }], guard := none }) rfl (fun K hK => ?_) AllReadyH.nil
        go_simp
        refine (grpFormat_any b c V x _ z2 Z3 (box (SS.out.below (Below.refl _ _).drew)) HX).mono ?_; rintro e w2 ⟨rfl, hb2⟩
        have O2 := box (own_below (show OwnS (wr.alloc (.cells #[.string n, .slice b V.length c] 55)).drew W1.heap.size _ _ from O1.out) hb2)
        have BW2 := box (hHeld.2.out.1.trans (hb2.mono hHeld.2.out.1.size))
        go_wp2_with fail
        refine hK.out _ _ ⟨⟨(hb2.cell (p := ⟨wr.heap.size, 0, none⟩) (cell_lt hHeld.1.1)).trans hHeld.1.1, (hb2.cell (p := ⟨wr.heap.size, 1, none⟩) (cell_lt hHeld.1.2)).trans hHeld.1.2⟩, box ⟨hHeld.2.out.1.trans (hb2.mono hHeld.2.out.1.size), (hb2.block _ (heap_lt hHeld.2.out.2)).trans hHeld.2.out.2⟩⟩ (fun hHeld => ?_)
        clear hK K
        try simp only [Act.put, List.setIfInBounds_toArray, List.set_cons_zero, List.set_cons_succ]
        refine wpAnyH_take (i := 7) (oi := { dst := some 22, op := Op.binOp BinOp.add 9 (Operand.tmp 18) (Operand.tmp 21) 9, type := 9, pos := "variants.go:48", after := #[{ on := 3, ground := Ground.data }, { on := 6, ground := Ground.data }], guard := none }) (v := ?v7z1) rfl (by kernel_rfl) (by kernel_rfl) (by kernel_rfl) (fun _ _ _ h => h) (Or.inl ⟨by rfl, ?y7z1⟩) (by assumption) ?r7z1
        case y7z1 => (intro w hSw; (try dsimp only at hSw); go_simp; first | done | with_reducible rfl)
        try simp only [Act.put, List.setIfInBounds_toArray, List.set_cons_zero, List.set_cons_succ]
        refine wpAnyH_ready (rs := [8]) (by kernel_rfl) (by simp) ?_
        refine AllReadyH.cons (o := { dst := some 23, op := Op.buildSlice 52 1 #[(0, Operand.tmp 22)], type := 52, pos := "variants.go:48", after := #[{ on := 7, ground := Ground.data }], guard := none }) rfl (fun K hK => ?_) AllReadyH.nil
        go_simp
        go_wp2_with fail
        refine hK.out _ _ ⟨⟨((below_new _ _).cell (p := ⟨wr.heap.size, 0, none⟩) (cell_lt hHeld.1.1)).trans hHeld.1.1, ((below_new _ _).cell (p := ⟨wr.heap.size, 1, none⟩) (cell_lt hHeld.1.2)).trans hHeld.1.2⟩, box ⟨hHeld.2.out.1.trans ((below_new _ _).mono hHeld.2.out.1.size), ((below_new _ _).block _ (heap_lt hHeld.2.out.2)).trans hHeld.2.out.2⟩⟩ (fun hHeld => ?_)
        clear hK K
        try simp only [Act.put, List.setIfInBounds_toArray, List.set_cons_zero, List.set_cons_succ]
        refine wpAnyH_ready (rs := [9]) (by kernel_rfl) (by simp) ?_
        refine AllReadyH.cons (o := { dst := some 24, op := Op.call { callee := Callee.builtin Builtin.append, args := #[Operand.tmp 15, Operand.tmp 23], argTypes := #[52, 52] }, type := 52, pos := "variants.go:48", after := #[{ on := 0, ground := Ground.data }, { on := 8, ground := Ground.data }, { on := 6, ground := Ground.chain }], guard := none }) rfl (fun K hK => ?_) AllReadyH.nil
        refine step_append_strA _ rfl (.tmp 15) (.tmp 23) rfl W1.heap.size _ _ rfl ?a1 _ _ rfl (n ++ ⟨#[61]⟩ ++ x) ?b1 hlen.out ?d1 wr.heap.size _ _ hHeld.2.out.2 ?_
        case a1 => exact own_below O2.out (below_new _ _)
        case b1 => go_simp
        case d1 => exact Nat.le_trans BW2.out.size (by simp)
        intro v6 w6 hO6 hb6 hG6
        refine hK.out _ _ ⟨axis_cells hG6, box ⟨hHeld.2.out.1.trans hb6, hG6⟩⟩ (fun hHeld => ?_)
        clear hK K
        try simp only [Act.put, List.setIfInBounds_toArray, List.set_cons_zero, List.set_cons_succ]
        refine wpAnyH_take (i := 10) (oi := { dst := some 3, op := Op.assign (Operand.tmp 24), type := 52, pos := "variants.go:48", after := #[{ on := 9, ground := Ground.data }, { on := 9, ground := Ground.chain }, { on := 0, ground := Ground.phase }, { on := 1, ground := Ground.phase }, { on := 2, ground := Ground.phase }, { on := 3, ground := Ground.phase }, { on := 4, ground := Ground.phase }, { on := 5, ground := Ground.phase }, { on := 6, ground := Ground.phase }, { on := 7, ground := Ground.phase }, { on := 8, ground := Ground.phase }, { on := 9, ground := Ground.phase }], guard := none }) (v := ?v10z1) rfl (by kernel_rfl) (by kernel_rfl) (by kernel_rfl) (fun _ _ _ h => h) (Or.inl ⟨by rfl, ?y10z1⟩) (by assumption) ?r10z1
        case y10z1 => (intro w hSw; (try dsimp only at hSw); go_simp; first | done | with_reducible rfl)
        try simp only [Act.put, List.setIfInBounds_toArray, List.set_cons_zero, List.set_cons_succ]
        refine wpAnyH_done (by kernel_rfl) ?_ _
        all_goals
          rw [← HT.out] at hO6
          have O6 := box hO6
          have B6 := box hHeld.2.out.1
          clear hO6 hb6 hb2 hHeld
          go_wp2
          go_roundw
          case rel => exact ⟨k + 1, by go_num, by omega, O6.out, B6.out⟩
          case measure => simp [intOf]; omega
      · have hki : ¬ (k : Int) < (L.length : Int) := by omega
        obtain rfl : k = L.length := by omega
        have HJ : Box (joinB (axB L L.length) = axesB L) := box (by unfold axB axesB; rw [List.take_length])
        have hml : Box ((axB L L.length).length = L.length) := box (axB_len (Nat.le_refl _))
        have hsz : Box (∀ y ∈ axB L L.length, y.size ≤ 65536) := box (fun y hy => by
          unfold axB at hy
          rw [List.take_length] at hy
          obtain ⟨x, hx, rfl⟩ := List.mem_map.1 hy
          obtain ⟨i, hi, rfl⟩ := List.mem_iff_getElem.1 hx
          obtain ⟨z1, z2, z3⟩ := hz.out i hi
          rw [bs_size]
          unfold axisL
          rw [List.length_append, List.length_cons]
          have := writ_len z2 z3
          have e : L[i].1.data.toList.length = L[i].1.size := by simp
          omega)
        clear O0
        go_wp2_with fail
        refine (vJoin_is hml hl hcv hsz SS0 HJ).mono ?_; rintro e w3 ⟨rfl, hb3⟩
        have B3 := box (B1.out.trans ((BL.out.trans (hb3.mono hs0)).mono B1.out.size))
        clear hb3
        go_wp2
        go_ret
        exact ⟨by rw [HV.out]; rfl, B3.out⟩
end
section
open Go.RowKit
theorem vEqual_is {a b : Option Addr} {ca cb : Nat} {K L : List AX} {q : Bool} {w : World} (hk : K.length ≤ 65536) (hl : L.length ≤ 65536) (zk : Box (smallA K)) (zl : Box (smallA L)) (hK : Axs w a K) (hL : Axs w b L) (h : Box (decide (K = L) = q)) :
    Calls Try.prog 13 #[.slice a K.length ca, .slice b L.length cb] w fun e w' => e = .returned (.bool q) ∧ Below w.heap.size w w' :=
  (mEqual_any a b ca cb K L w hk hl zk zl (box hK) (box hL)).mono fun e w' ⟨h1, h2⟩ => ⟨by rw [h1, h.out], h2⟩
theorem vFmt_is {a : Option Addr} {cap : Nat} {L : List AX} {x : ByteArray} {w : World} (hl : L.length ≤ 65536) (hz : Box (fitX L)) (hF : Axs w a L) (h : Box (fmtV L = x)) :
    Calls Try.prog 15 #[.slice a L.length cap] w fun e w' => e = .returned (.string x) ∧ Below w.heap.size w w' :=
  (mFmtV_any a cap L w hl hz (box hF)).mono fun e w' ⟨h1, h2⟩ => ⟨by rw [h1, h.out], h2⟩
theorem vParse_is {a : Option Addr} {cap n : Nat} {L : List F} {X : List AX} {k : Int} {w : World} (S : Box (Sm L)) (hv : Box (∀ x ∈ getL nmVar L, x.size ≤ 65000)) (hF : Fs w a L) (h : Box (varsX L = X ∧ varsE L = k)) (hn : Box (L.length = n) := by exact box rfl) :
    Calls Try.prog 12 #[.slice a n cap] w fun e w' => ∃ p c, e = .returned (.tuple #[.slice p X.length c, .int .i64 k]) ∧ Axs w' p X ∧ Below w.heap.size w w' := by
  have := mParseV_any a cap L w S hv (box hF)
  rw [hn.out] at this
  refine this.mono fun e w' ⟨v, h1, h2, h3⟩ => ?_
  rw [h.out.1] at h2
  rw [h.out.2] at h1
  obtain ⟨p, c, rfl, hA, _⟩ := h2.axs
  exact ⟨p, c, h1, hA, h3⟩
theorem vValue_is {n x : ByteArray} {q : Bool} {w : World} (hn : n.size ≤ 65000) (hx : x.size ≤ 65000) (h : Box (valueV n x = q)) :
    Calls Try.prog 7 #[.string n, .string x] w fun e w' => e = .returned (.bool q) ∧ Below w.heap.size w w' :=
  (mValue_any n x w hn hx).mono fun e w' ⟨h1, h2⟩ => ⟨by rw [h1, h.out], h2⟩
theorem vSame_is {n x y : ByteArray} {q : Bool} {w : World} (hn : n.size ≤ 65000) (hx : x.size ≤ 65000) (hy : y.size ≤ 65000) (h : Box (sameV n x y = q)) :
    Calls Try.prog 4 #[.string n, .string x, .string y] w fun e w' => e = .returned (.bool q) ∧ Below w.heap.size w w' :=
  (mSame_any n x y w hn hx hy).mono fun e w' ⟨h1, h2⟩ => ⟨by rw [h1, h.out], h2⟩
theorem fs_one15 (a b : ByteArray) (w : World) (t : TypeId) : Fs (w.alloc (.cells #[.string a, .string b] t)) (some ⟨w.heap.size, 0, none⟩) [(a, b)] := by
  intro i hi
  refine ⟨w.heap.size, 0, rfl, ?_, ?_⟩
  all_goals
    rw [World.cell?_alloc_mark]
    match i, hi with
    | 0, _ => rfl
theorem one_sm15 {n v : ByteArray} (h1 : n.size ≤ 65536) (h2 : v.size ≤ 65536) : Sm [(n, v)] := by
  refine ⟨by simp, fun i hi => ?_⟩
  match i, hi with
  | 0, _ => exact ⟨h1, h2⟩
theorem get_small15 {nm n v : ByteArray} (h : v.size ≤ 65000) : ∀ x ∈ getL nm [(n, v)], x.size ≤ 65000 := by
  intro x hx
  unfold getL at hx
  obtain ⟨p, hp, rfl⟩ := List.mem_map.1 hx
  have := (List.mem_filter.1 hp).1
  rw [List.mem_singleton] at this
  rw [this]; exact h
def aw15V : ByteArray := ⟨#[65, 99, 99, 101, 112, 116, 45, 76, 97, 110, 103, 117, 97, 103, 101, 61, 40, 101, 110, 32, 102, 114, 41, 44, 32, 65, 99, 99, 101, 112, 116, 45, 69, 110, 99, 111, 100, 105, 110, 103, 61, 40, 32, 103, 122, 105, 112, 32, 32, 105, 100, 101, 110, 116, 105, 116, 121, 32, 41]⟩
def aw15A : ByteArray := ⟨#[97, 99, 99, 101, 112, 116, 45, 108, 97, 110, 103, 117, 97, 103, 101]⟩
def aw15B : ByteArray := ⟨#[97, 99, 99, 101, 112, 116, 45, 101, 110, 99, 111, 100, 105, 110, 103]⟩
def aw15X : List AX := [(aw15A, [⟨#[101, 110]⟩, ⟨#[102, 114]⟩]), (aw15B, [⟨#[103, 122, 105, 112]⟩, ⟨#[105, 100, 101, 110, 116, 105, 116, 121]⟩])]
def aw15T : ByteArray := ⟨#[97, 99, 99, 101, 112, 116, 45, 108, 97, 110, 103, 117, 97, 103, 101, 61, 40, 101, 110, 32, 102, 114, 41, 44, 32, 97, 99, 99, 101, 112, 116, 45, 101, 110, 99, 111, 100, 105, 110, 103, 61, 40, 103, 122, 105, 112, 32, 105, 100, 101, 110, 116, 105, 116, 121, 41]⟩
theorem aw15_is : varsX [(nmVar, aw15V)] = aw15X ∧ varsE [(nmVar, aw15V)] = 0 := by decide +kernel
theorem aw15_fmt : fmtV aw15X = aw15T := by decide +kernel
theorem aw15_fit : fitX aw15X := by
  intro i hi
  match i, hi with
  | 0, _ => exact (show fitA (aw15A, [⟨#[101, 110]⟩, ⟨#[102, 114]⟩]) from ⟨by decide, by decide, by decide⟩)
  | 1, _ => exact (show fitA (aw15B, [⟨#[103, 122, 105, 112]⟩, ⟨#[105, 100, 101, 110, 116, 105, 116, 121]⟩]) from ⟨by decide, by decide, by decide⟩)
theorem ss_two15 (x y : ByteArray) (w : World) (t : TypeId) : Ss (w.alloc (.cells #[.string x, .string y] t)) (some ⟨w.heap.size, 0, none⟩) [x, y] := by
  intro i hi
  refine ⟨w.heap.size, 0, rfl, ?_⟩
  rw [World.cell?_alloc_mark]
  match i, hi with
  | 0, _ => rfl
  | 1, _ => rfl
theorem axes15_any (w : World) : Calls Try.prog 14 #[] w fun e w' => ∃ p c, e = .returned (.slice p aw15X.length c) ∧ Axs w' p aw15X ∧ Below w.heap.size w w' := by
  have S1 := ss_two15 ⟨#[101, 110]⟩ ⟨#[102, 114]⟩ w 9
  have b1 := below_new w (.cells #[.string ⟨#[101, 110]⟩, .string ⟨#[102, 114]⟩] 9)
  have S2 := ss_two15 ⟨#[103, 122, 105, 112]⟩ ⟨#[105, 100, 101, 110, 116, 105, 116, 121]⟩ (w.alloc (.cells #[.string ⟨#[101, 110]⟩, .string ⟨#[102, 114]⟩] 9)) 9
  have b2 := below_new (w.alloc (.cells #[.string ⟨#[101, 110]⟩, .string ⟨#[102, 114]⟩] 9)) (.cells #[.string ⟨#[103, 122, 105, 112]⟩, .string ⟨#[105, 100, 101, 110, 116, 105, 116, 121]⟩] 9)
  have HS := box (And.intro S1 (And.intro b1 (And.intro S2 b2)))
  clear S1 b1 S2 b2
  go_enter Try.func14, Try.ntmps14
  go_wp2
  go_ret
  obtain ⟨S1, b1, S2, b2⟩ := HS.out
  obtain ⟨W2, hW2⟩ : ∃ W2, (w.alloc (.cells #[.string ⟨#[101, 110]⟩, .string ⟨#[102, 114]⟩] 9)).alloc (.cells #[.string ⟨#[103, 122, 105, 112]⟩, .string ⟨#[105, 100, 101, 110, 116, 105, 116, 121]⟩] 9) = W2 := ⟨_, rfl⟩
  have hsz : (w.alloc (.cells #[.string ⟨#[101, 110]⟩, .string ⟨#[102, 114]⟩] 9)).heap.size = w.heap.size + 1 := by simp
  have hsz2 : W2.heap.size = w.heap.size + 1 + 1 := by rw [← hW2]; simp
  have S1' := S1.below b2
  rw [hsz] at S2
  rw [hW2] at S1' S2
  have b3 := below_new W2 (.cells #[.string aw15A, .slice (some ⟨w.heap.size, 0, none⟩) 2 2, .string aw15B, .slice (some ⟨w.heap.size + 1, 0, none⟩) 2 2] 55)
  refine ⟨some ⟨W2.heap.size, 0, none⟩, 2, by rw [hsz2]; rfl, ?_, (by
    have h := (b1.trans (b2.mono b1.size))
    rw [hW2] at h
    have h2 := h.trans (b3.mono h.size)
    rw [← hW2] at h2
    exact h2)⟩
  show Axs ((((w.alloc (.cells #[.string ⟨#[101, 110]⟩, .string ⟨#[102, 114]⟩] 9)).alloc (.cells #[.string ⟨#[103, 122, 105, 112]⟩, .string ⟨#[105, 100, 101, 110, 116, 105, 116, 121]⟩] 9))).alloc (.cells #[.string aw15A, .slice (some ⟨w.heap.size, 0, none⟩) 2 2, .string aw15B, .slice (some ⟨w.heap.size + 1, 0, none⟩) 2 2] 55)) _ _
  rw [hW2]
  intro i hi
  match i, hi with
  | 0, _ => exact ⟨W2.heap.size, 0, _, rfl, by rw [World.cell?_alloc_mark]; rfl, by rw [World.cell?_alloc_mark]; rfl, some ⟨w.heap.size, 0, none⟩, 2, rfl, S1'.below b3, Nat.le_refl 2⟩
  | 1, _ => exact ⟨W2.heap.size, 0, _, rfl, by rw [World.cell?_alloc_mark]; rfl, by rw [World.cell?_alloc_mark]; rfl, some ⟨w.heap.size + 1, 0, none⟩, 2, rfl, S2.below b3, Nat.le_refl 2⟩
theorem awake15_any (w : World) : Calls Try.prog 8 #[] w fun e w' => e = .returned (.bool true) ∧ Below w.heap.size w w' := by
  have HX := box aw15_is
  have HT := box aw15_fmt
  have HFT := box aw15_fit
  have HSM : Box (smallA aw15X) := box aw15_fit.small
  have HE : Box (decide (aw15X = aw15X) = true) := box (decide_eq_true rfl)
  have S := box (one_sm15 (n := nmVar) (v := aw15V) (by decide) (by decide))
  have hv := box (get_small15 (nm := nmVar) (n := nmVar) (v := aw15V) (by decide))
  have hl : aw15X.length ≤ 65536 := by decide
  have HTL : Box (aw15T.toList = aw15T.data.toList) := box (toList_data _)
  go_enter Try.func8, Try.ntmps8
  go_wp2_with fail
  refine (vParse_is (L := [(nmVar, aw15V)]) (X := aw15X) S hv (fs_one15 _ _ _ _) HX).mono ?_; rintro e w1 ⟨p1, c1, rfl, hA1, hb1⟩
  have B1 := box ((below_new w _).trans (hb1.mono (below_new w _).size))
  have A1 := box hA1
  clear hb1 hA1
  go_wp2_with fail
  refine (axes15_any _).mono ?_; rintro e w2 ⟨p2, c2, rfl, hA2, hb2⟩
  have A2 := box (A1.out.below hb2)
  have A3 := box hA2
  have B2 := box (B1.out.trans (hb2.mono B1.out.size))
  clear hb2 hA2
  go_wp2_with fail
  refine (vEqual_is hl hl HSM HSM A2.out A3.out HE).mono ?_; rintro e w3 ⟨rfl, hb3⟩
  have A4 := box (A2.out.below hb3)
  have B3 := box (B2.out.trans (hb3.mono B2.out.size))
  clear hb3
  go_wp2_with fail
  refine (vFmt_is hl HFT A4.out HT).mono ?_; rintro e w4 ⟨rfl, hb4⟩
  have B4 := box (B3.out.trans (hb4.mono B3.out.size))
  clear hb4
  rw [show aw15T = (⟨#[97, 99, 99, 101, 112, 116, 45, 108, 97, 110, 103, 117, 97, 103, 101, 61, 40, 101, 110, 32, 102, 114, 41, 44, 32, 97, 99, 99, 101, 112, 116, 45, 101, 110, 99, 111, 100, 105, 110, 103, 61, 40, 103, 122, 105, 112, 32, 105, 100, 101, 110, 116, 105, 116, 121, 41]⟩ : ByteArray) from rfl]
  go_wp2
  go_ret
  exact ⟨rfl, B4.out⟩
end
section
open Go.RowKit
theorem rKindL15_is {n : ByteArray} {k : Int} {w : World} (hn : n.size ≤ 65000) (h : Box (kindN n = k)) :
    Calls Try.prog 6 #[.string n] w fun e w' => e = .returned (.int .i64 k) ∧ Below w.heap.size w w' :=
  (rKind_any n w (by omega)).mono fun e w' ⟨h1, h2⟩ => ⟨by rw [h1, h.out], h2⟩
theorem rLower15_is {s x : ByteArray} {w : World} (hs : s.size ≤ 4294967296) (h : Box (bs (lowL s.data.toList) = x)) :
    Calls Try.prog 5 #[.string s] w fun e w' => e = .returned (.string x) ∧ Below w.heap.size w w' :=
  (rLower_any s w hs).mono fun e w' ⟨h1, h2⟩ => ⟨by rw [h1, ← h.out]; rfl, h2⟩
/-- behind the tests of equivalence -/
theorem same15_long (n x y z : ByteArray) (w : World) (hn : n.size ≤ maxLen) (hx : x.size ≤ maxLen) (hy : y.size ≤ maxLen) (hz : z.size ≤ maxLen) (h : 100 < n.size ∨ 100 < x.size ∨ 100 < y.size ∨ 100 < z.size) :
    Calls Try.prog 3 #[.string n, .string x, .string y, .string z] w fun e w' => e = .returned (.bool true) ∧ Below w.heap.size w w' := by
  unfold maxLen at hn hx hy hz
  by_cases h1 : 100 < n.size
  · clear h
    go_enter Try.func3, Try.ntmps3
    go_wp2
    go_ret
    exact ⟨rfl, Below.refl _ _⟩
  · by_cases h2 : 100 < x.size
    · clear h
      go_enter Try.func3, Try.ntmps3
      go_wp2
      go_ret
      exact ⟨rfl, Below.refl _ _⟩
    · by_cases h3 : 100 < y.size
      · clear h
        go_enter Try.func3, Try.ntmps3
        go_wp2
        go_ret
        exact ⟨rfl, Below.refl _ _⟩
      · have h4 : 100 < z.size := by omega
        clear h
        go_enter Try.func3, Try.ntmps3
        go_wp2
        go_ret
        exact ⟨rfl, Below.refl _ _⟩
set_option maxHeartbeats 4000000 in
theorem same15_in (n x y z : ByteArray) (w : World) (hn : n.size ≤ 100) (hx : x.size ≤ 100) (hy : y.size ≤ 100) (hz : z.size ≤ 100) :
    Calls Try.prog 3 #[.string n, .string x, .string y, .string z] w fun e w' => e = .returned (.bool true) ∧ Below w.heap.size w w' := by
  have hn6 : n.size ≤ 65000 := by omega
  have hx6 : x.size ≤ 65000 := by omega
  have hy6 : y.size ≤ 65000 := by omega
  have hz6 : z.size ≤ 65000 := by omega
  have hx4 : x.size ≤ 4294967296 := by omega
  have HXX := box (sameV_refl n x)
  obtain ⟨p, hp⟩ : ∃ p, sameV n x y = p := ⟨_, rfl⟩
  obtain ⟨q, hq⟩ : ∃ q, sameV n y z = q := ⟨_, rfl⟩
  obtain ⟨r, hr⟩ : ∃ r, sameV n x z = r := ⟨_, rfl⟩
  have HP := box hp
  have HY : Box (sameV n y x = p) := box (by rw [sameV_symm, hp])
  have HQ := box hq
  have HR := box hr
  have HT : Box (p = true → q = true → r = true) := box (fun h1 h2 => by rw [← hr]; exact sameV_trans (hp.trans h1) (hq.trans h2))
  obtain ⟨u, hu⟩ : ∃ u, bs (lowL x.data.toList) = u := ⟨_, rfl⟩
  have HU := box hu
  have hu6 : u.size ≤ 65000 := by
    rw [← hu, bs_size]
    have : (lowL x.data.toList).length = x.size := by simp [lowL]
    omega
  obtain ⟨k, hk⟩ : ∃ k, kindN n = k := ⟨_, rfl⟩
  have HK := box hk
  obtain ⟨v, hv⟩ : ∃ v, valueV n x = v := ⟨_, rfl⟩
  have HV := box hv
  have HKU : Box (k ≠ 0 → sameV n x u = true ∧ valueV n u = v) := box (fun h0 => by
    have h1 : kindN n ≠ 0 := by rw [hk]; exact h0
    rw [← hu, ← hv]
    exact ⟨sameV_low h1, valueV_low h1⟩)
  clear hp hq hr hu hk hv
  go_enter Try.func3, Try.ntmps3
  go_wp2_with fail
  refine (vSame_is hn6 hx6 hx6 HXX).mono ?_; rintro e w1 ⟨rfl, hb1⟩
  have B1 := box hb1
  clear hb1
  go_wp2_with fail
  refine (vSame_is hn6 hx6 hy6 HP).mono ?_; rintro e w2 ⟨rfl, hb2⟩
  have B2 := box (B1.out.trans (hb2.mono B1.out.size))
  clear hb2
  go_wp2_with fail
  refine (vSame_is hn6 hy6 hx6 HY).mono ?_; rintro e w3 ⟨rfl, hb3⟩
  have B3 := box (B2.out.trans (hb3.mono B2.out.size))
  clear hb3
  go_wp2_with fail
  refine (vSame_is hn6 hx6 hy6 HP).mono ?_; rintro e w4 ⟨rfl, hb4⟩
  have B4 := box (B3.out.trans (hb4.mono B3.out.size))
  clear hb4
  cases p with
  | false =>
    go_wp2_with fail
    refine (rLower15_is hx4 HU).mono ?_; rintro e w5 ⟨rfl, hb5⟩
    have B5 := box (B4.out.trans (hb5.mono B4.out.size))
    clear hb5
    go_wp2_with fail
    refine (rKindL15_is hn6 HK).mono ?_; rintro e w6 ⟨rfl, hb6⟩
    have B6 := box (B5.out.trans (hb6.mono B5.out.size))
    clear hb6
    by_cases hk0 : k = 0
    · subst hk0
      go_wp2_with fail
      refine (awake15_any _).mono ?_; rintro e w7 ⟨rfl, hb7⟩
      have B7 := box (B6.out.trans (hb7.mono B6.out.size))
      clear hb7
      go_wp2
      go_ret
      exact ⟨rfl, B7.out⟩
    · have HS1 := box (HKU.out hk0).1
      have HV1 := box (HKU.out hk0).2
      have hkb : (k == 0) = false := beq_eq_false_iff_ne.2 hk0
      clear hk0
      go_wp2_with fail
      refine (vSame_is hn6 hx6 hu6 HS1).mono ?_; rintro e w7 ⟨rfl, hb7⟩
      have B7 := box (B6.out.trans (hb7.mono B6.out.size))
      clear hb7
      go_wp2_with fail
      refine (vValue_is hn6 hx6 HV).mono ?_; rintro e w8 ⟨rfl, hb8⟩
      have B8 := box (B7.out.trans (hb8.mono B7.out.size))
      clear hb8
      go_wp2_with fail
      refine (vValue_is hn6 hu6 HV1).mono ?_; rintro e w9 ⟨rfl, hb9⟩
      have B9 := box (B8.out.trans (hb9.mono B8.out.size))
      clear hb9
      go_wp2_with fail
      refine (awake15_any _).mono ?_; rintro e w10 ⟨rfl, hb10⟩
      have B10 := box (B9.out.trans (hb10.mono B9.out.size))
      clear hb10
      go_wp2
      go_ret
      exact ⟨rfl, B10.out⟩
  | true =>
    go_wp2_with fail
    refine (vSame_is hn6 hy6 hz6 HQ).mono ?_; rintro e w4' ⟨rfl, hb4'⟩
    have B4' := box (B4.out.trans (hb4'.mono B4.out.size))
    clear hb4' B4
    cases q with
    | false =>
      go_wp2_with fail
      refine (rLower15_is hx4 HU).mono ?_; rintro e w5 ⟨rfl, hb5⟩
      have B5 := box (B4'.out.trans (hb5.mono B4'.out.size))
      clear hb5
      go_wp2_with fail
      refine (rKindL15_is hn6 HK).mono ?_; rintro e w6 ⟨rfl, hb6⟩
      have B6 := box (B5.out.trans (hb6.mono B5.out.size))
      clear hb6
      by_cases hk0 : k = 0
      · subst hk0
        go_wp2_with fail
        refine (awake15_any _).mono ?_; rintro e w7 ⟨rfl, hb7⟩
        have B7 := box (B6.out.trans (hb7.mono B6.out.size))
        clear hb7
        go_wp2
        go_ret
        exact ⟨rfl, B7.out⟩
      · have HS1 := box (HKU.out hk0).1
        have HV1 := box (HKU.out hk0).2
        have hkb : (k == 0) = false := beq_eq_false_iff_ne.2 hk0
        clear hk0
        go_wp2_with fail
        refine (vSame_is hn6 hx6 hu6 HS1).mono ?_; rintro e w7 ⟨rfl, hb7⟩
        have B7 := box (B6.out.trans (hb7.mono B6.out.size))
        clear hb7
        go_wp2_with fail
        refine (vValue_is hn6 hx6 HV).mono ?_; rintro e w8 ⟨rfl, hb8⟩
        have B8 := box (B7.out.trans (hb8.mono B7.out.size))
        clear hb8
        go_wp2_with fail
        refine (vValue_is hn6 hu6 HV1).mono ?_; rintro e w9 ⟨rfl, hb9⟩
        have B9 := box (B8.out.trans (hb9.mono B8.out.size))
        clear hb9
        go_wp2_with fail
        refine (awake15_any _).mono ?_; rintro e w10 ⟨rfl, hb10⟩
        have B10 := box (B9.out.trans (hb10.mono B9.out.size))
        clear hb10
        go_wp2
        go_ret
        exact ⟨rfl, B10.out⟩
    | true =>
      have hr1 : r = true := by have h9 := HT.out; simpa using h9
      subst hr1
      go_wp2_with fail
      refine (vSame_is hn6 hx6 hz6 HR).mono ?_; rintro e w4'' ⟨rfl, hb4''⟩
      have B4'' := box (B4'.out.trans (hb4''.mono B4'.out.size))
      clear hb4'' B4'
      go_wp2_with fail
      refine (rLower15_is hx4 HU).mono ?_; rintro e w5 ⟨rfl, hb5⟩
      have B5 := box (B4''.out.trans (hb5.mono B4''.out.size))
      clear hb5
      go_wp2_with fail
      refine (rKindL15_is hn6 HK).mono ?_; rintro e w6 ⟨rfl, hb6⟩
      have B6 := box (B5.out.trans (hb6.mono B5.out.size))
      clear hb6
      by_cases hk0 : k = 0
      · subst hk0
        go_wp2_with fail
        refine (awake15_any _).mono ?_; rintro e w7 ⟨rfl, hb7⟩
        have B7 := box (B6.out.trans (hb7.mono B6.out.size))
        clear hb7
        go_wp2
        go_ret
        exact ⟨rfl, B7.out⟩
      · have HS1 := box (HKU.out hk0).1
        have HV1 := box (HKU.out hk0).2
        have hkb : (k == 0) = false := beq_eq_false_iff_ne.2 hk0
        clear hk0
        go_wp2_with fail
        refine (vSame_is hn6 hx6 hu6 HS1).mono ?_; rintro e w7 ⟨rfl, hb7⟩
        have B7 := box (B6.out.trans (hb7.mono B6.out.size))
        clear hb7
        go_wp2_with fail
        refine (vValue_is hn6 hx6 HV).mono ?_; rintro e w8 ⟨rfl, hb8⟩
        have B8 := box (B7.out.trans (hb8.mono B7.out.size))
        clear hb8
        go_wp2_with fail
        refine (vValue_is hn6 hu6 HV1).mono ?_; rintro e w9 ⟨rfl, hb9⟩
        have B9 := box (B8.out.trans (hb9.mono B8.out.size))
        clear hb9
        go_wp2_with fail
        refine (awake15_any _).mono ?_; rintro e w10 ⟨rfl, hb10⟩
        have B10 := box (B9.out.trans (hb10.mono B9.out.size))
        clear hb10
        go_wp2
        go_ret
        exact ⟨rfl, B10.out⟩
theorem same15_walk (n x y z : ByteArray) (w : World) (hn : n.size ≤ maxLen) (hx : x.size ≤ maxLen) (hy : y.size ≤ maxLen) (hz : z.size ≤ maxLen) :
    Calls Try.prog 3 #[.string n, .string x, .string y, .string z] w fun e w' => e = .returned (.bool true) ∧ Below w.heap.size w w' := by
  by_cases h : 100 < n.size ∨ 100 < x.size ∨ 100 < y.size ∨ 100 < z.size
  · exact same15_long n x y z w hn hx hy hz h
  · exact same15_in n x y z w (by omega) (by omega) (by omega) (by omega)
end
end Go.Proofs.Ytodbmdekgfcjpaa.Asc
