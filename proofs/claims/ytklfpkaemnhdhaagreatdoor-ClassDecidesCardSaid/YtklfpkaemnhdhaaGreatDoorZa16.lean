/- Merged texts: ClsNorm ClsRef VarRef5 VarRef9 KeyMine KeyRef VarLaws VarLaws2 SelLaws. -/
import Derived.Test.YtklfpkaemnhdhaaGreatDoorZa03
import Derived.Test.YtklfpkaemnhdhaaGreatDoorZa04
import Derived.Test.YtklfpkaemnhdhaaGreatDoorZa05
import Derived.Test.YtklfpkaemnhdhaaGreatDoorZa06
import Derived.Test.YtklfpkaemnhdhaaGreatDoorZa07
import Derived.Test.YtklfpkaemnhdhaaGreatDoorZa09
import Derived.Test.YtklfpkaemnhdhaaGreatDoorZa10
import Derived.Test.YtklfpkaemnhdhaaGreatDoorZa11
import Derived.Test.YtklfpkaemnhdhaaGreatDoorZa12
import Derived.Test.YtklfpkaemnhdhaaGreatDoorZa13
import Derived.Test.YtklfpkaemnhdhaaGreatDoorZa14
import Derived.Test.YtklfpkaemnhdhaaGreatDoorZa15
set_option linter.unusedVariables false
set_option linter.unusedSimpArgs false
set_option maxRecDepth 100000
namespace Go.Proofs.YtklfpkaemnhdhaaGreatDoor.Asc
section
open Go.RowKit
theorem nameK_size (k : Int) : (nameK k).size ≤ 100 := by
  unfold nameK
  split
  · decide
  · split
    · decide
    · split
      · decide
      · split <;> decide
end
section
open Go.RowKit
def CrRel (A : List AX) (W : World) (v i : Value) (wr : World) : Prop :=
  ∃ j : Nat, i = .int .i64 j ∧ j ≤ A.length ∧ OwnAx wr W.heap.size v (A.take j) ∧ Box (Below W.heap.size W wr)
theorem axesText_is {a : Option Addr} {cap n : Nat} {A : List AX} {C : ByteArray} {w : World} (hl : A.length ≤ 65536) (hz : Box (∀ i (hi : i < A.length), fitA A[i])) (hF : Axs w a A) (h : Box (axesB A = C)) (hn : Box (A.length = n)) :
    Calls Tryz.prog 40 #[.slice a n cap] w fun e w' => e = .returned (.string C) ∧ Below w.heap.size w w' := by
  have := rAxesText_any a cap A w hl hz (box hF)
  rw [h.out, hn.out] at this; exact this
set_option maxHeartbeats 8000000 in
theorem rClass_any (p : Option Addr) (cp : Nat) (X : List AX) (a : Option Addr) (cap : Nat) (L : List F) (st : Bool) (w : World) (hx : X.length ≤ 65536) (ZX : Box (FitC X)) (FL : Box (FitL L)) (hX : Box (Axs w p X)) (hF : Box (Fs w a L)) :
    Calls Tryz.prog 13 #[.slice p X.length cp, .slice a L.length cap, .bool st] w fun e w' => e = .returned (.string (classS X L st)) ∧ Below w.heap.size w w' := by
  obtain ⟨C, hC⟩ : ∃ C, classS X L st = C := ⟨_, rfl⟩
  rw [hC]
  obtain ⟨nx, hnx⟩ : ∃ nx, X.length = nx := ⟨_, rfl⟩
  have HNX0 := box hnx
  rw [hnx]
  obtain ⟨nl, hnl⟩ : ∃ nl, L.length = nl := ⟨_, rfl⟩
  have HNL := box hnl
  rw [hnl]
  have FX := box ZX.out.fit
  cases hv : validX X with
  | false =>
    have HV := box hv
    have HR : Box (C = ⟨#[]⟩) := box (by rw [← hC]; unfold classS; rw [if_neg (by rw [hv]; simp)])
    clear hv hC hnx hnl
    go_enter Tryz.func13, Tryz.ntmps13
    go_wp2_with fail
    refine (rValid17_is hx FX hX.out HV HNX0).mono ?_; rintro e w1 ⟨rfl, hb1⟩
    have B1 := box hb1
    clear hb1
    go_wp2
    go_ret
    exact ⟨by rw [HR.out]; rfl, B1.out⟩
  | true =>
    have HV := box hv
    have hx4 : X.length ≤ 4 := (validX_len hv).2
    obtain ⟨A, hA⟩ : ∃ A, rankX X L st = A := ⟨_, rfl⟩
    have HC : Box (axesB A = C) := box (by rw [← hC, ← hA]; unfold classS; rw [if_pos hv])
    have HAL : Box (A.length = nx) := box (by rw [← hA, ← hnx]; unfold rankX; rw [List.length_map])
    have HAA : Box (∀ i (h : i < X.length) (h2 : i < A.length), A[i] = (X[i].1, rankS X[i] L st)) := box (by
      subst hA; intro i h h2; exact List.getElem_map _)
    have HAZ : Box (∀ i (hi : i < A.length), fitA A[i]) := box (by
      intro i hi
      have hiX : i < X.length := by rw [hnx, ← HAL.out]; exact hi
      rw [HAA.out i hiX hi]
      obtain ⟨z1, z2, z3⟩ := ZX.out i hiX
      obtain ⟨r1, r2⟩ := rank_small (L := L) (st := st) z3
      exact ⟨z1, r1, r2⟩)
    have hnx4 : nx ≤ 4 := by omega
    have ha6 : A.length ≤ 65536 := by rw [HAL.out]; omega
    clear hv hC hA hnx hnl
    go_enter Tryz.func13, Tryz.ntmps13
    go_wp2_with fail
    refine (rValid17_is hx FX hX.out HV HNX0).mono ?_; rintro e w1 ⟨rfl, hb1⟩
    have B1 := box hb1
    clear hb1
    go_wp2
    go_loopw [7, 8] (fun v i wr => CrRel A w v i wr) (fun _ i _ => nx - (intOf i).toNat)
    case atStart => exact ⟨0, rfl, Nat.zero_le _, OwnAx.nil _ _, B1⟩
    case round =>
      obtain ⟨ws, rfl⟩ : ∃ ws, ws = wr := ⟨_, rfl⟩
      obtain ⟨i, rfl, hi, hO, B3⟩ := hrel
      have hs3 := B3.out.size
      obtain ⟨va, vc, rfl, hAv, hvc⟩ := hO.axs
      have O3 := box hO
      have AV := box hAv
      clear hO hAv
      have hlen : (A.take i).length = i := by rw [List.length_take]; omega
      have HLEN := box hlen
      rw [hlen] at O3 ⊢
      clear hlen hvc
      by_cases hlt : i < nx
      · have hii : (i : Int) < (nx : Int) := by omega
        have hi0 : (0 : Int) ≤ (i : Int) := by omega
        have hiX : i < X.length := by have := HNX0.out; omega
        have hiA : i < A.length := by rw [HAL.out]; exact hlt
        obtain ⟨g, off, v, hp, f0, f1, b, c, rfl, hss, hcc⟩ := hX.out i hiX
        subst hp
        obtain ⟨z1, z2, z3⟩ := FX.out i hiX
        have HAI0 := HAA.out i hiX hiA
        obtain ⟨n, hn⟩ : ∃ n, X[i].1 = n := ⟨_, rfl⟩
        obtain ⟨V, hV⟩ : ∃ V, X[i].2 = V := ⟨_, rfl⟩
        have hxi : X[i] = (n, V) := by rw [← hn, ← hV]
        rw [hn] at f0 z1
        rw [hV] at f1 hss z2 hcc
        rw [hxi] at HAI0
        have Z3 : Box (∀ j (hj : j < V.length), V[j].size ≤ 20000) := box (by subst hV; exact z3)
        obtain ⟨m, hm⟩ : ∃ m, V.length = m := ⟨_, rfl⟩
        have HM := box hm
        rw [hm] at f1
        obtain ⟨r, hr⟩ : ∃ r, rankS (n, V) L st = r := ⟨_, rfl⟩
        have HR := box hr
        rw [hr] at HAI0
        have HTK : Box (A.take (i + 1) = A.take i ++ [(n, r)]) := box (by rw [List.take_succ_eq_append_getElem hiA, HAI0])
        obtain ⟨A0, hA0⟩ : ∃ A0, A.take i = A0 := ⟨_, rfl⟩
        rw [hA0] at O3 HTK
        have hA06 : A0.length ≤ 65536 := by rw [← hA0, List.length_take]; omega
        have c0w := box f0
        have c1w := box f1
        have c0 := (B3.out.cell (cell_lt f0)).trans f0
        have c1 := (B3.out.cell (cell_lt f1)).trans f1
        have HSS := box hss
        have hv6 : V.length ≤ 65536 := by omega
        obtain ⟨vn, hvn⟩ : ∃ vn, Value.slice va i vc = vn := ⟨_, rfl⟩
        rw [hvn] at O3 ⊢
        have BS0 := box ((Below.refl ws.heap.size ws).drew)
        clear hn hV hss z3 hxi hm hr HAI0 hA0 hvn f0 f1
        go_wp2
        refine wp_region_held_drew (S := (fun w' : World => (w'.cell? ⟨g, off + i * 2, none⟩ = some (.string n) ∧ w'.cell? ⟨g, off + i * 2 + 1, none⟩ = some (.slice b m c)) ∧ Box (Below w.heap.size w w'))) (by kernel_rfl) ⟨⟨c0, c1⟩, box B3.out.drew⟩ (fun hHeld => ?_)
        refine wpAnyH_take (i := 0) (oi := { dst := some 18, op := Op.move (Operand.tmp 7), type := 22, pos := "variants.go:342", after := #[], guard := none }) (v := ?v0z1) rfl (by kernel_rfl) (by kernel_rfl) (by kernel_rfl) (fun _ _ _ h => h) (Or.inl ⟨by rfl, ?y0z1⟩) (by assumption) ?r0z1
        case y0z1 => (intro w hSw; (try dsimp only at hSw); go_simp; first | done | with_reducible rfl)
        try simp only [Act.put, List.setIfInBounds_toArray, List.set_cons_zero, List.set_cons_succ]
        refine wpAnyH_take (i := 1) (oi := { dst := some 19, op := Op.move (Operand.tmp 0), type := 22, pos := "variants.go:342", after := #[], guard := none }) (v := ?v1z1) rfl (by kernel_rfl) (by kernel_rfl) (by kernel_rfl) (fun _ _ _ h => h) (Or.inl ⟨by rfl, ?y1z1⟩) (by assumption) ?r1z1
        case y1z1 => (intro w hSw; (try dsimp only at hSw); go_simp; first | done | with_reducible rfl)
        try simp only [Act.put, List.setIfInBounds_toArray, List.set_cons_zero, List.set_cons_succ]
        refine wpAnyH_take (i := 2) (oi := { dst := some 20, op := Op.move (Operand.tmp 8), type := 3, pos := "variants.go:342", after := #[], guard := none }) (v := ?v2z1) rfl (by kernel_rfl) (by kernel_rfl) (by kernel_rfl) (fun _ _ _ h => h) (Or.inl ⟨by rfl, ?y2z1⟩) (by assumption) ?r2z1
        case y2z1 => (intro w hSw; (try dsimp only at hSw); go_simp; first | done | with_reducible rfl)
        try simp only [Act.put, List.setIfInBounds_toArray, List.set_cons_zero, List.set_cons_succ]
        refine wpAnyH_take (i := 3) (oi := { dst := some 21, op := Op.indexAddr 22 (Operand.tmp 19) (Operand.tmp 20), type := 0, pos := "variants.go:342", after := #[{ on := 1, ground := Ground.data }, { on := 2, ground := Ground.data }], guard := none }) (v := ?v3z1) rfl (by kernel_rfl) (by kernel_rfl) (by kernel_rfl) (fun _ _ _ h => h) (Or.inl ⟨by rfl, ?y3z1⟩) (by assumption) ?r3z1
        case y3z1 => (intro w hSw; (try dsimp only at hSw); go_simp; first | done | with_reducible rfl)
        try simp only [Act.put, List.setIfInBounds_toArray, List.set_cons_zero, List.set_cons_succ]
        refine wpAnyH_take (i := 4) (oi := { dst := some 22, op := Op.fieldAddr 39 (Operand.tmp 21) 0, type := 0, pos := "variants.go:342", after := #[{ on := 3, ground := Ground.data }], guard := none }) (v := ?v4z1) rfl (by kernel_rfl) (by kernel_rfl) (by kernel_rfl) (fun _ _ _ h => h) (Or.inl ⟨by rfl, ?y4z1⟩) (by assumption) ?r4z1
        case y4z1 => (intro w hSw; (try dsimp only at hSw); go_simp; first | done | with_reducible rfl)
        try simp only [Act.put, List.setIfInBounds_toArray, List.set_cons_zero, List.set_cons_succ]
        refine wpAnyH_take (i := 5) (oi := { dst := some 23, op := Op.load 9 (Operand.tmp 22), type := 9, pos := "variants.go:342", after := #[{ on := 4, ground := Ground.data }], guard := none }) (v := ?v5z1) rfl (by kernel_rfl) (by kernel_rfl) (by kernel_rfl) (fun _ _ _ h => h) (Or.inl ⟨by rfl, ?y5z1⟩) (by assumption) ?r5z1
        case y5z1 => (intro w hSw; (try dsimp only at hSw); go_simp; first | done | with_reducible rfl)
        try simp only [Act.put, List.setIfInBounds_toArray, List.set_cons_zero, List.set_cons_succ]
        refine wpAnyH_take (i := 6) (oi := { dst := some 24, op := Op.move (Operand.tmp 0), type := 22, pos := "variants.go:342", after := #[], guard := none }) (v := ?v6z1) rfl (by kernel_rfl) (by kernel_rfl) (by kernel_rfl) (fun _ _ _ h => h) (Or.inl ⟨by rfl, ?y6z1⟩) (by assumption) ?r6z1
        case y6z1 => (intro w hSw; (try dsimp only at hSw); go_simp; first | done | with_reducible rfl)
        try simp only [Act.put, List.setIfInBounds_toArray, List.set_cons_zero, List.set_cons_succ]
        refine wpAnyH_take (i := 7) (oi := { dst := some 25, op := Op.move (Operand.tmp 8), type := 3, pos := "variants.go:342", after := #[], guard := none }) (v := ?v7z1) rfl (by kernel_rfl) (by kernel_rfl) (by kernel_rfl) (fun _ _ _ h => h) (Or.inl ⟨by rfl, ?y7z1⟩) (by assumption) ?r7z1
        case y7z1 => (intro w hSw; (try dsimp only at hSw); go_simp; first | done | with_reducible rfl)
        try simp only [Act.put, List.setIfInBounds_toArray, List.set_cons_zero, List.set_cons_succ]
        refine wpAnyH_take (i := 8) (oi := { dst := some 26, op := Op.indexAddr 22 (Operand.tmp 24) (Operand.tmp 25), type := 0, pos := "variants.go:342", after := #[{ on := 6, ground := Ground.data }, { on := 7, ground := Ground.data }], guard := none }) (v := ?v8z1) rfl (by kernel_rfl) (by kernel_rfl) (by kernel_rfl) (fun _ _ _ h => h) (Or.inl ⟨by rfl, ?y8z1⟩) (by assumption) ?r8z1
        case y8z1 => (intro w hSw; (try dsimp only at hSw); go_simp; first | done | with_reducible rfl)
        try simp only [Act.put, List.setIfInBounds_toArray, List.set_cons_zero, List.set_cons_succ]
        refine wpAnyH_take (i := 9) (oi := { dst := some 27, op := Op.load 39 (Operand.tmp 26), type := 39, pos := "variants.go:342", after := #[{ on := 8, ground := Ground.data }], guard := none }) (v := ?v9z1) rfl (by kernel_rfl) (by kernel_rfl) (by kernel_rfl) (fun _ _ _ h => h) (Or.inl ⟨by rfl, ?y9z1⟩) (by assumption) ?r9z1
        case y9z1 => (intro w hSw; (try dsimp only at hSw); go_simp; first | done | with_reducible rfl)
        try simp only [Act.put, List.setIfInBounds_toArray, List.set_cons_zero, List.set_cons_succ]
        refine wpAnyH_take (i := 10) (oi := { dst := some 28, op := Op.move (Operand.tmp 1), type := 23, pos := "variants.go:342", after := #[], guard := none }) (v := ?v10z1) rfl (by kernel_rfl) (by kernel_rfl) (by kernel_rfl) (fun _ _ _ h => h) (Or.inl ⟨by rfl, ?y10z1⟩) (by assumption) ?r10z1
        case y10z1 => (intro w hSw; (try dsimp only at hSw); go_simp; first | done | with_reducible rfl)
        try simp only [Act.put, List.setIfInBounds_toArray, List.set_cons_zero, List.set_cons_succ]
        refine wpAnyH_take (i := 11) (oi := { dst := some 29, op := Op.move (Operand.tmp 2), type := 4, pos := "variants.go:342", after := #[], guard := none }) (v := ?v11z1) rfl (by kernel_rfl) (by kernel_rfl) (by kernel_rfl) (fun _ _ _ h => h) (Or.inl ⟨by rfl, ?y11z1⟩) (by assumption) ?r11z1
        case y11z1 => (intro w hSw; (try dsimp only at hSw); go_simp; first | done | with_reducible rfl)
        try simp only [Act.put, List.setIfInBounds_toArray, List.set_cons_zero, List.set_cons_succ]
        refine wpAnyH_ready (rs := [12]) (by kernel_rfl) (by simp) ?_
        refine AllReadyH.cons (o := { dst := some 30, op := Op.call { callee := Callee.value (Operand.func 39), args := #[Operand.tmp 27, Operand.tmp 28, Operand.tmp 29], argTypes := #[39, 23, 4] }, type := 29, pos := "variants.go:342", after := #[{ on := 9, ground := Ground.data }, { on := 10, ground := Ground.data }, { on := 11, ground := Ground.data }], guard := none }) rfl (fun K hK => ?_) AllReadyH.nil
        go_simp
        refine (rRanked17_is z1 hv6 Z3 FL (HSS.out.below hHeld.2.out) (hF.out.below hHeld.2.out) HR HM HNL).mono ?_; rintro e w2 ⟨v2, rfl, hO2, hb2⟩
        obtain ⟨ra, rc, rfl, _, _⟩ := hO2.ss
        have BS1 := box (BS0.out.trans (hb2.mono BS0.out.size))
        have BB2 := box (hHeld.2.out.trans (hb2.mono hHeld.2.out.size))
        have Y2 := box (show OwnS w2 w.heap.size _ r from Go.Joins.ownsRow_le hO2 hHeld.2.out.size)
        clear hO2 hb2
        go_wp2_with fail
        refine hK.out _ _ ⟨⟨(BB2.out.cell (cell_lt c0w.out)).trans c0w.out, (BB2.out.cell (cell_lt c1w.out)).trans c1w.out⟩, BB2⟩ (fun hHeld => ?_)
        clear hK K
        try simp only [Act.put, List.setIfInBounds_toArray, List.set_cons_zero, List.set_cons_succ]
        refine wpAnyH_take (i := 13) (oi := { dst := some 31, op := Op.build 39 #[(0, Operand.tmp 23), (1, Operand.tmp 30)], type := 39, pos := "variants.go:342", after := #[{ on := 5, ground := Ground.data }, { on := 12, ground := Ground.data }], guard := none }) (v := ?v13z1) rfl (by kernel_rfl) (by kernel_rfl) (by kernel_rfl) (fun _ _ _ h => h) (Or.inl ⟨by rfl, ?y13z1⟩) (by assumption) ?r13z1
        case y13z1 => (intro w hSw; (try dsimp only at hSw); go_simp; first | done | with_reducible rfl)
        try simp only [Act.put, List.setIfInBounds_toArray, List.set_cons_zero, List.set_cons_succ]
        refine wpAnyH_ready (rs := [14]) (by kernel_rfl) (by simp) ?_
        refine AllReadyH.cons (o := { dst := some 32, op := Op.buildSlice 22 1 #[(0, Operand.tmp 31)], type := 22, pos := "variants.go:342", after := #[{ on := 13, ground := Ground.data }], guard := none }) rfl (fun K hK => ?_) AllReadyH.nil
        go_simp
        have BS2 := box (BS1.out.alloc BS1.out.size (.cells #[.string n, .slice ra r.length rc] 39))
        have BB3 := box (BB2.out.alloc BB2.out.size (.cells #[.string n, .slice ra r.length rc] 39))
        go_wp2_with fail
        refine hK.out _ _ ⟨⟨(BB3.out.cell (cell_lt c0w.out)).trans c0w.out, (BB3.out.cell (cell_lt c1w.out)).trans c1w.out⟩, BB3⟩ (fun hHeld => ?_)
        clear hK K
        try simp only [Act.put, List.setIfInBounds_toArray, List.set_cons_zero, List.set_cons_succ]
        refine wpAnyH_ready (rs := [15]) (by kernel_rfl) (by simp) ?_
        refine AllReadyH.cons (o := { dst := some 33, op := Op.call { callee := Callee.builtin Builtin.append, args := #[Operand.tmp 18, Operand.tmp 32], argTypes := #[22, 22] }, type := 22, pos := "variants.go:342", after := #[{ on := 0, ground := Ground.data }, { on := 14, ground := Ground.data }, { on := 12, ground := Ground.chain }], guard := none }) rfl (fun K hK => ?_) AllReadyH.nil
        refine step_append_axis _ rfl (.tmp 18) (.tmp 32) rfl w.heap.size vn A0 rfl ?a15 _ _ rfl n (.slice ra r.length rc) r ?b15 ?c15 ?u15 hA06 ?d15 ?_
        case a15 => exact O3.out.next BS2.out
        case b15 => exact (World.cell?_alloc_at (w := w2) #[.string n, .slice ra r.length rc] 39 w2.heap.size 0 rfl).trans rfl
        case c15 => exact (World.cell?_alloc_at (w := w2) #[.string n, .slice ra r.length rc] 39 w2.heap.size 1 rfl).trans rfl
        case u15 => exact own_below Y2.out (below_new _ _)
        case d15 => exact BB3.out.size
        intro v6 w6 hO6 hb6
        have BB4 := box (BB3.out.trans hb6)
        rw [← HTK.out] at hO6
        have O6 := box hO6
        clear hO6 hb6
        refine hK.out _ _ ⟨⟨(BB4.out.cell (cell_lt c0w.out)).trans c0w.out, (BB4.out.cell (cell_lt c1w.out)).trans c1w.out⟩, BB4⟩ (fun hHeld => ?_)
        clear hK K
        try simp only [Act.put, List.setIfInBounds_toArray, List.set_cons_zero, List.set_cons_succ]
        refine wpAnyH_take (i := 16) (oi := { dst := some 7, op := Op.assign (Operand.tmp 33), type := 22, pos := "variants.go:342", after := #[{ on := 15, ground := Ground.data }, { on := 15, ground := Ground.chain }, { on := 0, ground := Ground.phase }, { on := 1, ground := Ground.phase }, { on := 2, ground := Ground.phase }, { on := 3, ground := Ground.phase }, { on := 4, ground := Ground.phase }, { on := 5, ground := Ground.phase }, { on := 6, ground := Ground.phase }, { on := 7, ground := Ground.phase }, { on := 8, ground := Ground.phase }, { on := 9, ground := Ground.phase }, { on := 10, ground := Ground.phase }, { on := 11, ground := Ground.phase }, { on := 12, ground := Ground.phase }, { on := 13, ground := Ground.phase }, { on := 14, ground := Ground.phase }, { on := 15, ground := Ground.phase }], guard := none }) (v := ?v16z1) rfl (by kernel_rfl) (by kernel_rfl) (by kernel_rfl) (fun _ _ _ h => h) (Or.inl ⟨by rfl, ?y16z1⟩) (by assumption) ?r16z1
        case y16z1 => (intro w hSw; (try dsimp only at hSw); go_simp; first | done | with_reducible rfl)
        try simp only [Act.put, List.setIfInBounds_toArray, List.set_cons_zero, List.set_cons_succ]
        refine wpAnyH_done (by kernel_rfl) ?_ _
        go_wp2
        go_roundw
        case rel => exact ⟨i + 1, by go_num, by omega, O6.out, BB4⟩
        case measure => simp [intOf]; omega
      · have hii : ¬ (i : Int) < (nx : Int) := by omega
        have hin : i = nx := by have := HAL.out; omega
        subst hin
        have HTM : Box (A.take i = A) := box (List.take_of_length_le (by rw [HAL.out]; exact Nat.le_refl _))
        rw [HTM.out] at AV
        go_wp2_with fail
        refine (axesText_is ha6 HAZ AV.out HC HAL).mono ?_; rintro e w4 ⟨rfl, hb4⟩
        have B4 := box (B3.out.trans (hb4.mono hs3))
        clear hb4
        go_wp2
        go_ret
        exact ⟨rfl, B4.out⟩
theorem rClass_is {p : Option Addr} {cp nx : Nat} {X : List AX} {a : Option Addr} {cap nl : Nat} {L : List F} {st : Bool} {C : ByteArray} {w : World} (hx : X.length ≤ 65536) (ZX : Box (FitC X)) (FL : Box (FitL L)) (hX : Axs w p X) (hF : Fs w a L) (h : Box (classS X L st = C)) (hnx : Box (X.length = nx)) (hnl : Box (L.length = nl)) :
    Calls Tryz.prog 13 #[.slice p nx cp, .slice a nl cap, .bool st] w fun e w' => e = .returned (.string C) ∧ Below w.heap.size w w' := by
  have := rClass_any p cp X a cap L st w hx ZX FL (box hX) (box hF)
  rw [h.out, hnx.out, hnl.out] at this; exact this
set_option maxHeartbeats 2000000 in
theorem rSame18_is {p : Option Addr} {cp nx : Nat} {X : List AX} {a b : Option Addr} {ca cb nl nm : Nat} {L M : List F} {st q : Bool} {w : World} (hx : X.length ≤ 65536) (ZX : Box (FitC X)) (FL : Box (FitL L)) (FM : Box (FitL M)) (hX : Axs w p X) (hF : Fs w a L) (hG : Fs w b M) (h : Box (sameC X L M st = q)) (hnx : Box (X.length = nx)) (hnl : Box (L.length = nl)) (hnm : Box (M.length = nm)) :
    Calls Tryz.prog 15 #[.slice p nx cp, .slice a nl ca, .slice b nm cb, .bool st] w fun e w' => e = .returned (.bool q) ∧ Below w.heap.size w w' := by
  have HX := box hX
  have HF := box hF
  have HG := box hG
  have FX := box ZX.out.fit
  obtain ⟨c1, hc1⟩ : ∃ c, classS X L st = c := ⟨_, rfl⟩
  obtain ⟨c2, hc2⟩ : ∃ c, classS X M st = c := ⟨_, rfl⟩
  have HC1 := box hc1
  have HC2 := box hc2
  cases hv : validX X with
  | false =>
    have HV := box hv
    have HQ : Box (q = false) := box (by rw [← h.out]; unfold sameC; rw [hv]; rfl)
    clear hX hF hG hv hc1 hc2
    go_enter Tryz.func15, Tryz.ntmps15
    go_wp2_with fail
    refine (rValid17_is hx FX HX.out HV hnx).mono ?_; rintro e w1 ⟨rfl, hb1⟩
    have B1 := box hb1
    clear hb1
    go_wp2
    go_ret
    exact ⟨by rw [HQ.out]; rfl, B1.out⟩
  | true =>
    have HV := box hv
    have HQ : Box (q = decide (c1 = c2)) := box (by rw [← h.out]; unfold sameC; rw [hv, hc1, hc2]; rfl)
    obtain ⟨z, hz⟩ : ∃ z, (c1.toList == c2.toList) = z := ⟨_, rfl⟩
    have HQ2 : Box (q = z) := box (by rw [HQ.out, ← hz, beq_str])
    clear hX hF hG hv hc1 hc2 HQ
    go_enter Tryz.func15, Tryz.ntmps15
    go_wp2_with fail
    refine (rValid17_is hx FX HX.out HV hnx).mono ?_; rintro e w1 ⟨rfl, hb1⟩
    have B1 := box hb1
    clear hb1
    go_wp2_with fail
    refine (rClass_is hx ZX FL (HX.out.below B1.out) (HF.out.below B1.out) HC1 hnx hnl).mono ?_; rintro e w2 ⟨rfl, hb2⟩
    have B2 := box (B1.out.trans (hb2.mono B1.out.size))
    clear hb2
    go_wp2_with fail
    refine (rClass_is hx ZX FM (HX.out.below B2.out) (HG.out.below B2.out) HC2 hnx hnm).mono ?_; rintro e w3 ⟨rfl, hb3⟩
    have B3 := box (B2.out.trans (hb3.mono B2.out.size))
    clear hb3
    go_wp2
    go_ret
    exact ⟨by rw [HQ2.out]; rfl, B3.out⟩
end
section
open Go.RowKit
theorem sameS15_is {a b : Option Addr} {ca cb : Nat} {K L : List ByteArray} {q : Bool} {w : World} (hk : K.length ≤ 65536) (hl : L.length ≤ 65536) (hK : Ss w a K) (hL : Ss w b L) (h : Box (decide (K = L) = q)) :
    Calls Tryz.prog 53 #[.slice a K.length ca, .slice b L.length cb] w fun e w' => e = .returned (.bool q) ∧ Below w.heap.size w w' :=
  (SameS_any a b ca cb K L w hk hl (box hK) (box hL)).mono fun e w' ⟨h1, h2⟩ => ⟨by rw [h1, h.out], h2⟩
end
section
open Go.RowKit
def fitX (L : List AX) : Prop := ∀ i (hi : i < L.length), fitA L[i]
theorem fitX.small {L : List AX} (h : fitX L) : smallA L := fun i hi => by
  obtain ⟨h1, h2, h3⟩ := h i hi
  exact ⟨by omega, by omega, fun j hj => by have := h3 _ (List.getElem_mem hj); omega⟩
end
section
open Go.RowKit
/-- what the function value has captured -/
def KofAt (w : World) (ga gv gi : Nat) (n : ByteArray) (x : ByteArray) (m : Nat) (q : Nat) (o : Nat) (len c : Nat) : Prop :=
  w.cell? ⟨ga, 0, none⟩ = some (.string n) ∧ w.cell? ⟨gv, 0, none⟩ = some (.slice (some ⟨q, o, none⟩) len c) ∧ w.cell? ⟨gi, 0, none⟩ = some (.int .i64 (m : Int)) ∧ w.cell? ⟨q, o + m, none⟩ = some (.string x)
theorem KofAt.below {w w' : World} {ga gv gi m q o len c : Nat} {n x : ByteArray} (h : KofAt w ga gv gi n x m q o len c) (hb : Below w.heap.size w w') : KofAt w' ga gv gi n x m q o len c :=
  ⟨(hb.cell (cell_lt h.1)).trans h.1, (hb.cell (cell_lt h.2.1)).trans h.2.1, (hb.cell (cell_lt h.2.2.1)).trans h.2.2.1, (hb.cell (cell_lt h.2.2.2)).trans h.2.2.2⟩
end
section
open Go.RowKit
def SkRel (K L : List KY) (w : World) (i : Value) (wr : World) : Prop := ∃ j : Nat, i = .int .i64 j ∧ j ≤ K.length ∧ K.take j = L.take j ∧ Box (Below w.heap.size w wr)
set_option maxHeartbeats 2000000 in
theorem rSameKeys_any (a b : Option Addr) (ca cb : Nat) (K L : List KY) (w : World) (hk : K.length ≤ 65536) (hl : L.length ≤ 65536) (zk : Box (smallK K)) (zl : Box (smallK L)) (hK : Box (Kss w a K)) (hL : Box (Kss w b L)) :
    Calls Tryz.prog 21 #[.slice a K.length ca, .slice b L.length cb] w fun e w' => e = .returned (.bool (decide (K = L))) ∧ Below w.heap.size w w' := by
  by_cases hn : K.length = L.length
  · have HN := box hn
    have hne : ((K.length : Int) != (L.length : Int)) = false := by simp [hn]
    clear hn
    go_enter Tryz.func21, Tryz.ntmps21
    go_wp2
    go_loopw [5] (fun i wr => SkRel K L w i wr) (fun i _ => K.length - (intOf i).toNat)
    case atStart => exact ⟨0, rfl, Nat.zero_le _, rfl, box (Below.refl _ _)⟩
    case round =>
      obtain ⟨j, rfl, hj, htk, B0⟩ := hrel
      have HTK := box htk
      have hs0 := B0.out.size
      clear htk
      by_cases hlt : j < K.length
      · have hlt2 : j < L.length := by rw [← HN.out]; exact hlt
        have i1 : (0 : Int) ≤ (j : Int) := by omega
        have i2 : (j : Int) < (K.length : Int) := by omega
        have i3 : (j : Int) < (L.length : Int) := by omega
        obtain ⟨g, off, v, rfl, c0, ba, ca2, rfl, hss, _⟩ := (hK.out.below B0.out) j hlt
        obtain ⟨h, of2, v, rfl, d0, bb, cb2, rfl, hst, _⟩ := (hL.out.below B0.out) j hlt2
        obtain ⟨z2, _⟩ := zk.out _ (List.getElem_mem hlt)
        obtain ⟨y2, _⟩ := zl.out _ (List.getElem_mem hlt2)
        obtain ⟨A, hA⟩ : ∃ A, K[j] = A := ⟨_, rfl⟩
        obtain ⟨B, hB⟩ : ∃ B, L[j] = B := ⟨_, rfl⟩
        rw [hA] at c0 hss z2
        rw [hB] at d0 hst y2
        have z6 : A.length ≤ 65536 := by omega
        have y6 : B.length ≤ 65536 := by omega
        have SA := box hss
        have SB := box hst
        clear hss hst z2 y2
        obtain ⟨q, hq⟩ : ∃ q, decide (A = B) = q := ⟨_, rfl⟩
        have HQ := box hq
        cases q with
        | false =>
          have HX : Box (decide (K = L) = false) := box (decide_eq_false (not_same hlt hlt2 (fun e => by rw [hA, hB] at e; exact absurd e (of_decide_eq_false hq))))
          clear hq hA hB
          go_wp2
          go_region_held3 (fun w' => w'.cell? ⟨g, off + j, none⟩ = some (.slice ba A.length ca2) ∧ w'.cell? ⟨h, of2 + j, none⟩ = some (.slice bb B.length cb2)) (first | exact ⟨(hb5.cell (cell_lt c0)).trans c0, (hb5.cell (cell_lt d0)).trans d0⟩ | exact ⟨c0, d0⟩) (first | (go_at_call 53; refine (sameS15_is z6 y6 (SA.out.below (below_drewN _ _)) (SB.out.below (below_drewN _ _)) HQ).mono ?_; rintro e w5 ⟨rfl, hb5⟩))
          all_goals
            have B5 := box (B0.out.trans (((below_drewN _ _).trans hb5).mono B0.out.size))
            clear hb5
            go_wp2
            go_ret
            exact ⟨by rw [HX.out]; rfl, B5.out⟩
        | true =>
          have HX := box (take_same hlt hlt2 HTK.out (by rw [hA, hB]; exact of_decide_eq_true hq))
          clear hq hA hB
          go_wp2
          go_region_held3 (fun w' => w'.cell? ⟨g, off + j, none⟩ = some (.slice ba A.length ca2) ∧ w'.cell? ⟨h, of2 + j, none⟩ = some (.slice bb B.length cb2)) (first | exact ⟨(hb5.cell (cell_lt c0)).trans c0, (hb5.cell (cell_lt d0)).trans d0⟩ | exact ⟨c0, d0⟩) (first | (go_at_call 53; refine (sameS15_is z6 y6 (SA.out.below (below_drewN _ _)) (SB.out.below (below_drewN _ _)) HQ).mono ?_; rintro e w5 ⟨rfl, hb5⟩))
          all_goals
            have B5 := box (B0.out.trans (((below_drewN _ _).trans hb5).mono B0.out.size))
            clear hb5
            go_wp2
            go_roundw
            case rel => exact ⟨j + 1, by go_num, by omega, HX.out, B5⟩
            case measure => simp [intOf]; omega
      · have e : j = K.length := by omega
        have E : Box (decide (K = L) = true) := box (decide_eq_true (by
          have h := HTK.out
          subst e
          rw [List.take_length, HN.out, List.take_length] at h
          exact h))
        clear e
        go_wp2
        go_ret
        exact ⟨by rw [E.out]; rfl, B0.out⟩
  · have hne : ((K.length : Int) != (L.length : Int)) = true := by simp; omega
    have HN : Box (decide (K = L) = false) := box (decide_eq_false (fun e => hn (by rw [e])))
    clear hn
    go_enter Tryz.func21, Tryz.ntmps21
    go_wp2
    go_ret
    exact ⟨by rw [HN.out]; rfl, Below.refl _ _⟩
theorem rSameKeys_is {a b : Option Addr} {ca cb : Nat} {K L : List KY} {q : Bool} {w : World} (hk : K.length ≤ 65536) (hl : L.length ≤ 65536) (zk : Box (smallK K)) (zl : Box (smallK L)) (hK : Kss w a K) (hL : Kss w b L) (h : Box (decide (K = L) = q)) :
    Calls Tryz.prog 21 #[.slice a K.length ca, .slice b L.length cb] w fun e w' => e = .returned (.bool q) ∧ Below w.heap.size w w' :=
  (rSameKeys_any a b ca cb K L w hk hl zk zl (box hK) (box hL)).mono fun e w' ⟨h1, h2⟩ => ⟨by rw [h1, h.out], h2⟩
end
section
open Go.RowKit
def aw15A : ByteArray := ⟨#[97, 99, 99, 101, 112, 116, 45, 108, 97, 110, 103, 117, 97, 103, 101]⟩
def aw15B : ByteArray := ⟨#[97, 99, 99, 101, 112, 116, 45, 101, 110, 99, 111, 100, 105, 110, 103]⟩
def aw15X : List AX := [(aw15A, [⟨#[101, 110]⟩, ⟨#[102, 114]⟩]), (aw15B, [⟨#[103, 122, 105, 112]⟩, ⟨#[105, 100, 101, 110, 116, 105, 116, 121]⟩])]
theorem aw15_fit : fitX aw15X := by
  intro i hi
  match i, hi with
  | 0, _ => exact (show fitA (aw15A, [⟨#[101, 110]⟩, ⟨#[102, 114]⟩]) from ⟨by decide, by decide, by decide⟩)
  | 1, _ => exact (show fitA (aw15B, [⟨#[103, 122, 105, 112]⟩, ⟨#[105, 100, 101, 110, 116, 105, 116, 121]⟩]) from ⟨by decide, by decide, by decide⟩)
theorem ss_two15 (x y : ByteArray) (w : World) (t : TypeId) : Ss (w.alloc (.cells #[.string x, .string y] t)) (some ⟨w.heap.size, 0, none⟩) [x, y] := by
  intro i hi
  refine ⟨w.heap.size, 0, rfl, ?_⟩
  rw [World.cell?_alloc_mark]
  match i, hi with
  | 0, _ => rfl
  | 1, _ => rfl
end
section
open Go.RowKit
theorem keepAx_is {a : Option Addr} {cap : Nat} {L : List AX} {q : Bool} {w : World} (hl : L.length ≤ maxLen) (hF : Axs w a L ∧ ∀ i (hi : i < L.length), L[i].2.length ≤ maxLen) (h : Box (keepA L = q)) :
    Calls Tryz.prog 10 #[.slice a L.length cap] w fun e w' => e = .returned (.bool q) ∧ w = w' :=
  (keepAxes_any a cap L w hl (box hF.1) (box hF.2)).mono fun e w' ⟨h1, h2⟩ => ⟨by rw [h1, h.out], h2⟩
theorem keepF15_is {a : Option Addr} {cap : Nat} {L : List F} {q : Bool} {w : World} (hl : L.length ≤ maxLen) (hF : Fs w a L) (h : Box (keepF L = q)) :
    Calls Tryz.prog 11 #[.slice a L.length cap] w fun e w' => e = .returned (.bool q) ∧ w = w' :=
  (keepFields_any a cap L w hl (box hF)).mono fun e w' ⟨h1, h2⟩ => ⟨by rw [h1, h.out], h2⟩
end
section
open Go.RowKit
theorem fit_small {L : List F} {m : Nat} (h0 : L.length ≤ 65536) (h : ∀ i (hi : i < L.length), L[i].1.size ≤ 9000 ∧ L[i].2.size ≤ 9000) : FitL L := by
  refine ⟨⟨h0, fun i hi => by have := h i hi; omega⟩, fun nm x hx => ?_⟩
  unfold getL at hx
  obtain ⟨p, hp, rfl⟩ := List.mem_map.1 hx
  obtain ⟨i, hi, rfl⟩ := List.getElem_of_mem (List.mem_filter.1 hp).1
  have := h i hi; omega
theorem fit_keepF {L : List F} (h : keepF L = true) : FitL L := by
  obtain ⟨h1, h2⟩ := keep_parts h
  exact fit_small (m := 0) (by omega) (fun i hi => by have := h2 i hi; omega)
theorem fit_keepA {X : List AX} (h : keepA X = true) : FitX X := fun i hi => by
  obtain ⟨h1, h2⟩ := keep_fit h
  obtain ⟨h3, h4, h5⟩ := h2 i hi
  exact ⟨by omega, by omega, fun j hj => by have := h5 _ (List.getElem_mem hj); omega⟩
theorem keys_small17 {X : List AX} {L : List F} {st : Bool} (hZ : FitX X) : smallK (keysS X L st) ∧ (keysS X L st).length ≤ 64 ∧ ∀ k ∈ keysS X L st, k.length ≤ 4 := by
  unfold keysS
  cases hv : validX X with
  | false => exact ⟨fun k hk => (by cases hk), Nat.zero_le _, fun k hk => (by cases hk)⟩
  | true =>
    have hx := (validX_len hv).2
    simp only [Bool.true_eq_false, if_false]
    have hl : (rowsS X L st).length = X.length := by unfold rowsS; rw [List.length_map]
    have hk4 : ∀ k ∈ (prodK (rowsS X L st)).take 64, k.length ≤ 4 := fun k hk => by
      have := (prodK_mem _ _ (List.mem_of_mem_take hk)).1
      omega
    refine ⟨fun k hk => ⟨by have := hk4 k hk; omega, fun v hv2 => ?_⟩, by rw [List.length_take]; omega, hk4⟩
    obtain ⟨h1, h2⟩ := prodK_mem _ _ (List.mem_of_mem_take hk)
    obtain ⟨i, hi, rfl⟩ := List.getElem_of_mem hv2
    have hiX : i < X.length := by omega
    have hm := h2 i (by omega) hi
    have he : (rowsS X L st)[i]'(by omega) = rankS X[i] L st := List.getElem_map _
    rw [he] at hm
    have hm2 := rankS_mem hm
    obtain ⟨j, hj, e⟩ := List.getElem_of_mem hm2
    have := (hZ i hiX).2.2 j hj
    rw [← e]; omega
theorem keepF17_is {a : Option Addr} {cap n : Nat} {L : List F} {q : Bool} {w : World} (hl : L.length ≤ maxLen) (hF : Fs w a L) (h : Box (keepF L = q)) (hn : Box (L.length = n)) :
    Calls Tryz.prog 11 #[.slice a n cap] w fun e w' => e = .returned (.bool q) ∧ w = w' := by
  have := keepF15_is (cap := cap) hl hF h
  rw [hn.out] at this; exact this
theorem keepA17_is {a : Option Addr} {cap n : Nat} {X : List AX} {q : Bool} {w : World} (hl : X.length ≤ maxLen) (hF : Axs w a X ∧ ∀ i (hi : i < X.length), X[i].2.length ≤ maxLen) (h : Box (keepA X = q)) (hn : Box (X.length = n)) :
    Calls Tryz.prog 10 #[.slice a n cap] w fun e w' => e = .returned (.bool q) ∧ w = w' := by
  have := keepAx_is (cap := cap) hl hF h
  rw [hn.out] at this; exact this
end
end Go.Proofs.YtklfpkaemnhdhaaGreatDoor.Asc
