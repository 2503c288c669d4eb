/- The walks of the laws EtagCompares and EtagBack. -/
import Derived.Test.YtchbhpfloinbdaaEtaLaws
set_option linter.unusedVariables false
set_option linter.unusedSimpArgs false
set_option maxRecDepth 100000
namespace Go.Proofs.Ytchbhpfloinbdaa.Asc
open Go.RowKit

/-- two tags, one behind the other -/
structure Two21 (w : World) (c0 c1 d0 d1 : Value) (w' : World) : Prop where
  e : T2 w.heap.size c0 c1 w'
  x : T2 (w.heap.size + 1) d0 d1 w'
  b : Below w.heap.size w w'
section
variable {w w' w'' : World} {c0 c1 d0 d1 : Value}
theorem Two21.next (h : Two21 w c0 c1 d0 d1 w') (hb : Below w'.heap.size w' w'') : Two21 w c0 c1 d0 d1 w'' :=
  ⟨h.e.next hb, h.x.next hb, h.b.trans (hb.mono h.b.size)⟩
theorem Two21.drewN {n : Nat} (h : Two21 w c0 c1 d0 d1 w') : Two21 w c0 c1 d0 d1 (w'.drewN n) := h.next (below_drewN _ _)
theorem Two21.cells (h : Two21 w c0 c1 d0 d1 w') : w'.cell? ⟨w.heap.size, 0, none⟩ = some c0 ∧ w'.cell? ⟨w.heap.size, 1, none⟩ = some c1 ∧ w'.cell? ⟨w.heap.size + 1, 0, none⟩ = some d0 ∧ w'.cell? ⟨w.heap.size + 1, 1, none⟩ = some d1 :=
  ⟨h.e.1.1, h.e.1.2, h.x.1.1, h.x.1.2⟩
theorem Two21.new (t1 t2 : TypeId) : Two21 w c0 c1 d0 d1 ((w.alloc (.cells #[c0, c1] t1)).alloc (.cells #[d0, d1] t2)) := by
  have b1 := below_new w (.cells #[c0, c1] t1)
  have b2 := below_new (w.alloc (.cells #[c0, c1] t1)) (.cells #[d0, d1] t2)
  have D := T2.new d0 d1 (w.alloc (.cells #[c0, c1] t1)) t2
  rw [show (w.alloc (.cells #[c0, c1] t1)).heap.size = w.heap.size + 1 from by simp] at D
  exact ⟨(T2.new c0 c1 w t1).next b2, D, b1.trans (b2.mono b1.size)⟩
end
theorem compares21_long (b : Bool) (t : ByteArray) (c : Bool) (u : ByteArray) (w : World) (ht : t.size ≤ 9223372036854775807) (hu : u.size ≤ 9223372036854775807) (h : 1000 < t.size ∨ (¬ 1000 < t.size ∧ 1000 < u.size)) :
    Calls Try.prog 5 #[.agg #[.bool b, .string t], .agg #[.bool c, .string u]] w fun e w' => e = .returned (.bool true) ∧ Below w.heap.size w w' := by
  rcases h with h | ⟨h1, h⟩
  · have i1 : (1000 : Int) < (t.size : Int) := by omega
    go_enter Try.func5, Try.ntmps5
    go_wp2
    go_ret
    exact ⟨rfl, (below_new _ _).alloc (below_new _ _).size _⟩
  · have i1 : ¬ (1000 : Int) < (t.size : Int) := by omega
    have i2 : (1000 : Int) < (u.size : Int) := by omega
    go_enter Try.func5, Try.ntmps5
    go_wp2
    go_ret
    exact ⟨rfl, (below_new _ _).alloc (below_new _ _).size _⟩
theorem weak_comm (x y : ET) : weakE y x = weakE x y := by
  unfold weakE; rw [Bool.eq_iff_iff, decide_eq_true_iff, decide_eq_true_iff]; exact eq_comm
theorem strong_weak {x y : ET} (h : strongE x y = true) : weakE x y = true := by
  unfold strongE at h
  simp only [Bool.and_eq_true] at h
  exact h.1.1
set_option maxHeartbeats 8000000 in
theorem compares21_ff (b : Bool) (t : ByteArray) (c : Bool) (u : ByteArray) (w : World) (ht : t.size ≤ 1000) (hu : u.size ≤ 1000) (HS : Box (strongE (b, t) (c, u) = false)) (HW : Box (weakE (b, t) (c, u) = false)) :
    Calls Try.prog 5 #[.agg #[.bool b, .string t], .agg #[.bool c, .string u]] w fun e w' => e = .returned (.bool true) ∧ Below w.heap.size w w' := by
  have i1 : ¬ (1000 : Int) < (t.size : Int) := by omega
  have i2 : ¬ (1000 : Int) < (u.size : Int) := by omega
  have HY : Box (weakE (c, u) (b, t) = false) := box (by rw [weak_comm]; exact HW.out)
  have K0 := box (Two21.new (w := w) (c0 := .bool b) (c1 := .string t) (d0 := .bool c) (d1 := .string u) 23 23)
  go_enter Try.func5, Try.ntmps5
  go_wp2
  refine wp_region_held_drew (S := (fun w' : World => (w'.cell? ⟨w.heap.size, 0, none⟩ = some (.bool b) ∧ w'.cell? ⟨w.heap.size, 1, none⟩ = some (.string t) ∧ w'.cell? ⟨w.heap.size + 1, 0, none⟩ = some (.bool c) ∧ w'.cell? ⟨w.heap.size + 1, 1, none⟩ = some (.string u)) ∧ Box (Two21 w (.bool b) (.string t) (.bool c) (.string u) w'))) (by kernel_rfl) ⟨(K0.out.drewN (n := 1)).cells, box (K0.out.drewN (n := 1))⟩ (fun hHeld => ?_)
  refine wpAnyH_take (i := 0) (oi := { dst := some 15, op := Op.load 23 (Operand.tmp 2), type := 23, pos := "law.go:46", after := #[], guard := none }) (v := ?v0z1) rfl (by kernel_rfl) (by kernel_rfl) (by kernel_rfl) (fun _ _ _ h => h) (Or.inl ⟨by rfl, ?y0z1⟩) (by assumption) ?r0z1
  case y0z1 => (intro w hSw; (try dsimp only at hSw); go_simp; first | done | with_reducible rfl)
  try simp only [Act.put, List.setIfInBounds_toArray, List.set_cons_zero, List.set_cons_succ]
  refine wpAnyH_take (i := 1) (oi := { dst := some 16, op := Op.load 23 (Operand.tmp 3), type := 23, pos := "law.go:46", after := #[], guard := none }) (v := ?v1z1) rfl (by kernel_rfl) (by kernel_rfl) (by kernel_rfl) (fun _ _ _ h => h) (Or.inl ⟨by rfl, ?y1z1⟩) (by assumption) ?r1z1
  case y1z1 => (intro w hSw; (try dsimp only at hSw); go_simp; first | done | with_reducible rfl)
  try simp only [Act.put, List.setIfInBounds_toArray, List.set_cons_zero, List.set_cons_succ]
  refine wpAnyH_take (i := 3) (oi := { dst := some 18, op := Op.load 23 (Operand.tmp 2), type := 23, pos := "law.go:46", after := #[], guard := none }) (v := ?v3z1) rfl (by kernel_rfl) (by kernel_rfl) (by kernel_rfl) (fun _ _ _ h => h) (Or.inl ⟨by rfl, ?y3z1⟩) (by assumption) ?r3z1
  case y3z1 => (intro w hSw; (try dsimp only at hSw); go_simp; first | done | with_reducible rfl)
  try simp only [Act.put, List.setIfInBounds_toArray, List.set_cons_zero, List.set_cons_succ]
  refine wpAnyH_take (i := 4) (oi := { dst := some 19, op := Op.load 23 (Operand.tmp 3), type := 23, pos := "law.go:46", after := #[], guard := none }) (v := ?v4z1) rfl (by kernel_rfl) (by kernel_rfl) (by kernel_rfl) (fun _ _ _ h => h) (Or.inl ⟨by rfl, ?y4z1⟩) (by assumption) ?r4z1
  case y4z1 => (intro w hSw; (try dsimp only at hSw); go_simp; first | done | with_reducible rfl)
  try simp only [Act.put, List.setIfInBounds_toArray, List.set_cons_zero, List.set_cons_succ]
  refine wpAnyH_ready (rs := [2]) (by kernel_rfl) (by simp) ?_
  refine AllReadyH.cons (o := { dst := some 17, op := Op.call { callee := Callee.value (Operand.func 19), args := #[Operand.tmp 15, Operand.tmp 16], argTypes := #[23, 23] }, type := 4, pos := "law.go:46", after := #[{ on := 0, ground := Ground.data }, { on := 1, ground := Ground.data }], guard := none }) rfl (fun K hK => ?_) AllReadyH.nil
  go_simp
  refine (mStrongE_is HS).mono ?_; rintro e u1 ⟨rfl, hu⟩
  have K1 := box (hHeld.2.out.next hu)
  clear hu
  go_wp2_with fail
  refine hK.out _ _ ⟨K1.out.cells, K1⟩ (fun hHeld => ?_)
  clear hK K
  try simp only [Act.put, List.setIfInBounds_toArray, List.set_cons_zero, List.set_cons_succ]
  refine wpAnyH_ready (rs := [5]) (by kernel_rfl) (by simp) ?_
  refine AllReadyH.cons (o := { dst := some 20, op := Op.call { callee := Callee.value (Operand.func 20), args := #[Operand.tmp 18, Operand.tmp 19], argTypes := #[23, 23] }, type := 4, pos := "law.go:46", after := #[{ on := 3, ground := Ground.data }, { on := 4, ground := Ground.data }, { on := 2, ground := Ground.chain }], guard := none }) rfl (fun K hK => ?_) AllReadyH.nil
  go_simp
  refine (rStrongE_is HS).mono ?_; rintro e u1 ⟨rfl, hu⟩
  have K1 := box (hHeld.2.out.next hu)
  clear hu
  go_wp2_with fail
  refine hK.out _ _ ⟨K1.out.cells, K1⟩ (fun hHeld => ?_)
  clear hK K
  try simp only [Act.put, List.setIfInBounds_toArray, List.set_cons_zero, List.set_cons_succ]
  refine wpAnyH_take (i := 6) (oi := { dst := some 21, op := Op.binOp BinOp.eql 4 (Operand.tmp 17) (Operand.tmp 20) 4, type := 4, pos := "law.go:46", after := #[{ on := 2, ground := Ground.data }, { on := 5, ground := Ground.data }], guard := none }) (v := ?v6z1) rfl (by kernel_rfl) (by kernel_rfl) (by kernel_rfl) (fun _ _ _ h => h) (Or.inl ⟨by rfl, ?y6z1⟩) (by assumption) ?r6z1
  case y6z1 => (intro w hSw; (try dsimp only at hSw); go_simp; first | done | with_reducible rfl)
  try simp only [Act.put, List.setIfInBounds_toArray, List.set_cons_zero, List.set_cons_succ]
  refine wpAnyH_take (i := 7) (oi := { dst := some 22, op := Op.move (Operand.tmp 21), type := 4, pos := "law.go:46", after := #[{ on := 6, ground := Ground.data }, { on := 5, ground := Ground.chain }], guard := none }) (v := ?v7z1) rfl (by kernel_rfl) (by kernel_rfl) (by kernel_rfl) (fun _ _ _ h => h) (Or.inl ⟨by rfl, ?y7z1⟩) (by assumption) ?r7z1
  case y7z1 => (intro w hSw; (try dsimp only at hSw); go_simp; first | done | with_reducible rfl)
  try simp only [Act.put, List.setIfInBounds_toArray, List.set_cons_zero, List.set_cons_succ]
  refine wpAnyH_take (i := 8) (oi := { dst := some 23, op := Op.load 23 (Operand.tmp 2), type := 23, pos := "law.go:46", after := #[{ on := 7, ground := Ground.guard }], guard := some (7, true) }) (v := ?v8z1) rfl (by kernel_rfl) (by kernel_rfl) (by kernel_rfl) (fun _ _ _ h => h) (Or.inl ⟨by rfl, ?y8z1⟩) (by assumption) ?r8z1
  case y8z1 => (intro w hSw; (try dsimp only at hSw); go_simp; first | done | with_reducible rfl)
  try simp only [Act.put, List.setIfInBounds_toArray, List.set_cons_zero, List.set_cons_succ]
  refine wpAnyH_take (i := 9) (oi := { dst := some 24, op := Op.load 23 (Operand.tmp 3), type := 23, pos := "law.go:46", after := #[{ on := 7, ground := Ground.guard }], guard := some (7, true) }) (v := ?v9z1) rfl (by kernel_rfl) (by kernel_rfl) (by kernel_rfl) (fun _ _ _ h => h) (Or.inl ⟨by rfl, ?y9z1⟩) (by assumption) ?r9z1
  case y9z1 => (intro w hSw; (try dsimp only at hSw); go_simp; first | done | with_reducible rfl)
  try simp only [Act.put, List.setIfInBounds_toArray, List.set_cons_zero, List.set_cons_succ]
  refine wpAnyH_take (i := 11) (oi := { dst := some 26, op := Op.load 23 (Operand.tmp 2), type := 23, pos := "law.go:46", after := #[{ on := 7, ground := Ground.guard }], guard := some (7, true) }) (v := ?v11z1) rfl (by kernel_rfl) (by kernel_rfl) (by kernel_rfl) (fun _ _ _ h => h) (Or.inl ⟨by rfl, ?y11z1⟩) (by assumption) ?r11z1
  case y11z1 => (intro w hSw; (try dsimp only at hSw); go_simp; first | done | with_reducible rfl)
  try simp only [Act.put, List.setIfInBounds_toArray, List.set_cons_zero, List.set_cons_succ]
  refine wpAnyH_take (i := 12) (oi := { dst := some 27, op := Op.load 23 (Operand.tmp 3), type := 23, pos := "law.go:46", after := #[{ on := 7, ground := Ground.guard }], guard := some (7, true) }) (v := ?v12z1) rfl (by kernel_rfl) (by kernel_rfl) (by kernel_rfl) (fun _ _ _ h => h) (Or.inl ⟨by rfl, ?y12z1⟩) (by assumption) ?r12z1
  case y12z1 => (intro w hSw; (try dsimp only at hSw); go_simp; first | done | with_reducible rfl)
  try simp only [Act.put, List.setIfInBounds_toArray, List.set_cons_zero, List.set_cons_succ]
  refine wpAnyH_ready (rs := [10]) (by kernel_rfl) (by simp) ?_
  refine AllReadyH.cons (o := { dst := some 25, op := Op.call { callee := Callee.value (Operand.func 21), args := #[Operand.tmp 23, Operand.tmp 24], argTypes := #[23, 23] }, type := 4, pos := "law.go:46", after := #[{ on := 8, ground := Ground.data }, { on := 9, ground := Ground.data }, { on := 7, ground := Ground.chain }, { on := 7, ground := Ground.guard }], guard := some (7, true) }) rfl (fun K hK => ?_) AllReadyH.nil
  go_simp
  refine (mWeakE_is HW).mono ?_; rintro e u1 ⟨rfl, hu⟩
  have K1 := box (hHeld.2.out.next hu)
  clear hu
  go_wp2_with fail
  refine hK.out _ _ ⟨K1.out.cells, K1⟩ (fun hHeld => ?_)
  clear hK K
  try simp only [Act.put, List.setIfInBounds_toArray, List.set_cons_zero, List.set_cons_succ]
  refine wpAnyH_ready (rs := [13]) (by kernel_rfl) (by simp) ?_
  refine AllReadyH.cons (o := { dst := some 28, op := Op.call { callee := Callee.value (Operand.func 22), args := #[Operand.tmp 26, Operand.tmp 27], argTypes := #[23, 23] }, type := 4, pos := "law.go:46", after := #[{ on := 11, ground := Ground.data }, { on := 12, ground := Ground.data }, { on := 10, ground := Ground.chain }, { on := 7, ground := Ground.guard }], guard := some (7, true) }) rfl (fun K hK => ?_) AllReadyH.nil
  go_simp
  refine (rWeakE_is HW).mono ?_; rintro e u1 ⟨rfl, hu⟩
  have K1 := box (hHeld.2.out.next hu)
  clear hu
  go_wp2_with fail
  refine hK.out _ _ ⟨K1.out.cells, K1⟩ (fun hHeld => ?_)
  clear hK K
  try simp only [Act.put, List.setIfInBounds_toArray, List.set_cons_zero, List.set_cons_succ]
  refine wpAnyH_take (i := 14) (oi := { dst := some 29, op := Op.binOp BinOp.eql 4 (Operand.tmp 25) (Operand.tmp 28) 4, type := 4, pos := "law.go:46", after := #[{ on := 10, ground := Ground.data }, { on := 13, ground := Ground.data }, { on := 7, ground := Ground.guard }], guard := some (7, true) }) (v := ?v14z1) rfl (by kernel_rfl) (by kernel_rfl) (by kernel_rfl) (fun _ _ _ h => h) (Or.inl ⟨by rfl, ?y14z1⟩) (by assumption) ?r14z1
  case y14z1 => (intro w hSw; (try dsimp only at hSw); go_simp; first | done | with_reducible rfl)
  try simp only [Act.put, List.setIfInBounds_toArray, List.set_cons_zero, List.set_cons_succ]
  refine wpAnyH_take (i := 15) (oi := { dst := some 30, op := Op.pick (Operand.tmp 22) (Operand.tmp 29) (Operand.const (Value.bool false)), type := 4, pos := "law.go:46", after := #[{ on := 7, ground := Ground.data }, { on := 14, ground := Ground.data }], guard := none }) (v := ?v15z1) rfl (by kernel_rfl) (by kernel_rfl) (by kernel_rfl) (fun _ _ _ h => h) (Or.inl ⟨by rfl, ?y15z1⟩) (by assumption) ?r15z1
  case y15z1 => (intro w hSw; (try dsimp only at hSw); go_simp; first | done | with_reducible rfl)
  try simp only [Act.put, List.setIfInBounds_toArray, List.set_cons_zero, List.set_cons_succ]
  refine wpAnyH_take (i := 16) (oi := { dst := some 31, op := Op.move (Operand.tmp 30), type := 4, pos := "law.go:46", after := #[{ on := 15, ground := Ground.data }, { on := 13, ground := Ground.chain }], guard := none }) (v := ?v16z1) rfl (by kernel_rfl) (by kernel_rfl) (by kernel_rfl) (fun _ _ _ h => h) (Or.inl ⟨by rfl, ?y16z1⟩) (by assumption) ?r16z1
  case y16z1 => (intro w hSw; (try dsimp only at hSw); go_simp; first | done | with_reducible rfl)
  try simp only [Act.put, List.setIfInBounds_toArray, List.set_cons_zero, List.set_cons_succ]
  refine wpAnyH_take (i := 17) (oi := { dst := some 32, op := Op.load 23 (Operand.tmp 2), type := 23, pos := "law.go:46", after := #[{ on := 16, ground := Ground.guard }], guard := some (16, true) }) (v := ?v17z1) rfl (by kernel_rfl) (by kernel_rfl) (by kernel_rfl) (fun _ _ _ h => h) (Or.inl ⟨by rfl, ?y17z1⟩) (by assumption) ?r17z1
  case y17z1 => (intro w hSw; (try dsimp only at hSw); go_simp; first | done | with_reducible rfl)
  try simp only [Act.put, List.setIfInBounds_toArray, List.set_cons_zero, List.set_cons_succ]
  refine wpAnyH_take (i := 18) (oi := { dst := some 33, op := Op.load 23 (Operand.tmp 3), type := 23, pos := "law.go:46", after := #[{ on := 16, ground := Ground.guard }], guard := some (16, true) }) (v := ?v18z1) rfl (by kernel_rfl) (by kernel_rfl) (by kernel_rfl) (fun _ _ _ h => h) (Or.inl ⟨by rfl, ?y18z1⟩) (by assumption) ?r18z1
  case y18z1 => (intro w hSw; (try dsimp only at hSw); go_simp; first | done | with_reducible rfl)
  try simp only [Act.put, List.setIfInBounds_toArray, List.set_cons_zero, List.set_cons_succ]
  refine wpAnyH_ready (rs := [19]) (by kernel_rfl) (by simp) ?_
  refine AllReadyH.cons (o := { dst := some 34, op := Op.call { callee := Callee.value (Operand.func 19), args := #[Operand.tmp 32, Operand.tmp 33], argTypes := #[23, 23] }, type := 4, pos := "law.go:46", after := #[{ on := 17, ground := Ground.data }, { on := 18, ground := Ground.data }, { on := 16, ground := Ground.chain }, { on := 16, ground := Ground.guard }], guard := some (16, true) }) rfl (fun K hK => ?_) AllReadyH.nil
  go_simp
  refine (mStrongE_is HS).mono ?_; rintro e u1 ⟨rfl, hu⟩
  have K1 := box (hHeld.2.out.next hu)
  clear hu
  go_wp2_with fail
  refine hK.out _ _ ⟨K1.out.cells, K1⟩ (fun hHeld => ?_)
  clear hK K
  try simp only [Act.put, List.setIfInBounds_toArray, List.set_cons_zero, List.set_cons_succ]
  refine wpAnyH_take (i := 20) (oi := { dst := some 35, op := Op.unOp UnOp.not 4 (Operand.tmp 34), type := 4, pos := "law.go:46", after := #[{ on := 19, ground := Ground.data }, { on := 16, ground := Ground.guard }], guard := some (16, true) }) (v := ?v20z1) rfl (by kernel_rfl) (by kernel_rfl) (by kernel_rfl) (fun _ _ _ h => h) (Or.inl ⟨by rfl, ?y20z1⟩) (by assumption) ?r20z1
  case y20z1 => (intro w hSw; (try dsimp only at hSw); go_simp; first | done | with_reducible rfl)
  try simp only [Act.put, List.setIfInBounds_toArray, List.set_cons_zero, List.set_cons_succ]
  refine wpAnyH_take (i := 21) (oi := { dst := some 36, op := Op.move (Operand.tmp 35), type := 4, pos := "law.go:46", after := #[{ on := 20, ground := Ground.data }, { on := 19, ground := Ground.chain }, { on := 16, ground := Ground.guard }], guard := some (16, true) }) (v := ?v21z1) rfl (by kernel_rfl) (by kernel_rfl) (by kernel_rfl) (fun _ _ _ h => h) (Or.inl ⟨by rfl, ?y21z1⟩) (by assumption) ?r21z1
  case y21z1 => (intro w hSw; (try dsimp only at hSw); go_simp; first | done | with_reducible rfl)
  try simp only [Act.put, List.setIfInBounds_toArray, List.set_cons_zero, List.set_cons_succ]
  refine wpAnyH_take (i := 22) (oi := { dst := some 37, op := Op.load 23 (Operand.tmp 2), type := 23, pos := "law.go:46", after := #[{ on := 21, ground := Ground.guard }], guard := some (21, false) }) (v := undef) rfl (by kernel_rfl) (by kernel_rfl) (by kernel_rfl) (fun _ _ _ h => h) (Or.inr ⟨by rfl, rfl⟩) (by assumption) ?_
  try simp only [Act.put, List.setIfInBounds_toArray, List.set_cons_zero, List.set_cons_succ]
  refine wpAnyH_take (i := 23) (oi := { dst := some 38, op := Op.load 23 (Operand.tmp 3), type := 23, pos := "law.go:46", after := #[{ on := 21, ground := Ground.guard }], guard := some (21, false) }) (v := undef) rfl (by kernel_rfl) (by kernel_rfl) (by kernel_rfl) (fun _ _ _ h => h) (Or.inr ⟨by rfl, rfl⟩) (by assumption) ?_
  try simp only [Act.put, List.setIfInBounds_toArray, List.set_cons_zero, List.set_cons_succ]
  refine wpAnyH_take (i := 24) (oi := { dst := some 39, op := Op.call { callee := Callee.value (Operand.func 21), args := #[Operand.tmp 37, Operand.tmp 38], argTypes := #[23, 23] }, type := 4, pos := "law.go:46", after := #[{ on := 22, ground := Ground.data }, { on := 23, ground := Ground.data }, { on := 21, ground := Ground.chain }, { on := 21, ground := Ground.guard }], guard := some (21, false) }) (v := undef) rfl (by kernel_rfl) (by kernel_rfl) (by kernel_rfl) (fun _ _ _ h => h) (Or.inr ⟨by rfl, rfl⟩) (by assumption) ?_
  try simp only [Act.put, List.setIfInBounds_toArray, List.set_cons_zero, List.set_cons_succ]
  refine wpAnyH_take (i := 25) (oi := { dst := some 40, op := Op.pick (Operand.tmp 36) (Operand.const (Value.bool true)) (Operand.tmp 39), type := 4, pos := "law.go:46", after := #[{ on := 21, ground := Ground.data }, { on := 24, ground := Ground.data }, { on := 16, ground := Ground.guard }], guard := some (16, true) }) (v := ?v25z1) rfl (by kernel_rfl) (by kernel_rfl) (by kernel_rfl) (fun _ _ _ h => h) (Or.inl ⟨by rfl, ?y25z1⟩) (by assumption) ?r25z1
  case y25z1 => (intro w hSw; (try dsimp only at hSw); go_simp; first | done | with_reducible rfl)
  try simp only [Act.put, List.setIfInBounds_toArray, List.set_cons_zero, List.set_cons_succ]
  refine wpAnyH_take (i := 26) (oi := { dst := some 41, op := Op.pick (Operand.tmp 31) (Operand.tmp 40) (Operand.const (Value.bool false)), type := 4, pos := "law.go:46", after := #[{ on := 16, ground := Ground.data }, { on := 25, ground := Ground.data }], guard := none }) (v := ?v26z1) rfl (by kernel_rfl) (by kernel_rfl) (by kernel_rfl) (fun _ _ _ h => h) (Or.inl ⟨by rfl, ?y26z1⟩) (by assumption) ?r26z1
  case y26z1 => (intro w hSw; (try dsimp only at hSw); go_simp; first | done | with_reducible rfl)
  try simp only [Act.put, List.setIfInBounds_toArray, List.set_cons_zero, List.set_cons_succ]
  refine wpAnyH_take (i := 27) (oi := { dst := some 42, op := Op.move (Operand.tmp 41), type := 4, pos := "law.go:46", after := #[{ on := 26, ground := Ground.data }, { on := 24, ground := Ground.chain }], guard := none }) (v := ?v27z1) rfl (by kernel_rfl) (by kernel_rfl) (by kernel_rfl) (fun _ _ _ h => h) (Or.inl ⟨by rfl, ?y27z1⟩) (by assumption) ?r27z1
  case y27z1 => (intro w hSw; (try dsimp only at hSw); go_simp; first | done | with_reducible rfl)
  try simp only [Act.put, List.setIfInBounds_toArray, List.set_cons_zero, List.set_cons_succ]
  refine wpAnyH_take (i := 28) (oi := { dst := some 43, op := Op.load 23 (Operand.tmp 2), type := 23, pos := "law.go:46", after := #[{ on := 27, ground := Ground.guard }], guard := some (27, true) }) (v := ?v28z1) rfl (by kernel_rfl) (by kernel_rfl) (by kernel_rfl) (fun _ _ _ h => h) (Or.inl ⟨by rfl, ?y28z1⟩) (by assumption) ?r28z1
  case y28z1 => (intro w hSw; (try dsimp only at hSw); go_simp; first | done | with_reducible rfl)
  try simp only [Act.put, List.setIfInBounds_toArray, List.set_cons_zero, List.set_cons_succ]
  refine wpAnyH_take (i := 29) (oi := { dst := some 44, op := Op.load 23 (Operand.tmp 3), type := 23, pos := "law.go:46", after := #[{ on := 27, ground := Ground.guard }], guard := some (27, true) }) (v := ?v29z1) rfl (by kernel_rfl) (by kernel_rfl) (by kernel_rfl) (fun _ _ _ h => h) (Or.inl ⟨by rfl, ?y29z1⟩) (by assumption) ?r29z1
  case y29z1 => (intro w hSw; (try dsimp only at hSw); go_simp; first | done | with_reducible rfl)
  try simp only [Act.put, List.setIfInBounds_toArray, List.set_cons_zero, List.set_cons_succ]
  refine wpAnyH_take (i := 31) (oi := { dst := some 46, op := Op.load 23 (Operand.tmp 3), type := 23, pos := "law.go:46", after := #[{ on := 27, ground := Ground.guard }], guard := some (27, true) }) (v := ?v31z1) rfl (by kernel_rfl) (by kernel_rfl) (by kernel_rfl) (fun _ _ _ h => h) (Or.inl ⟨by rfl, ?y31z1⟩) (by assumption) ?r31z1
  case y31z1 => (intro w hSw; (try dsimp only at hSw); go_simp; first | done | with_reducible rfl)
  try simp only [Act.put, List.setIfInBounds_toArray, List.set_cons_zero, List.set_cons_succ]
  refine wpAnyH_take (i := 32) (oi := { dst := some 47, op := Op.load 23 (Operand.tmp 2), type := 23, pos := "law.go:46", after := #[{ on := 27, ground := Ground.guard }], guard := some (27, true) }) (v := ?v32z1) rfl (by kernel_rfl) (by kernel_rfl) (by kernel_rfl) (fun _ _ _ h => h) (Or.inl ⟨by rfl, ?y32z1⟩) (by assumption) ?r32z1
  case y32z1 => (intro w hSw; (try dsimp only at hSw); go_simp; first | done | with_reducible rfl)
  try simp only [Act.put, List.setIfInBounds_toArray, List.set_cons_zero, List.set_cons_succ]
  refine wpAnyH_ready (rs := [30]) (by kernel_rfl) (by simp) ?_
  refine AllReadyH.cons (o := { dst := some 45, op := Op.call { callee := Callee.value (Operand.func 21), args := #[Operand.tmp 43, Operand.tmp 44], argTypes := #[23, 23] }, type := 4, pos := "law.go:46", after := #[{ on := 28, ground := Ground.data }, { on := 29, ground := Ground.data }, { on := 27, ground := Ground.chain }, { on := 27, ground := Ground.guard }], guard := some (27, true) }) rfl (fun K hK => ?_) AllReadyH.nil
  go_simp
  refine (mWeakE_is HW).mono ?_; rintro e u1 ⟨rfl, hu⟩
  have K1 := box (hHeld.2.out.next hu)
  clear hu
  go_wp2_with fail
  refine hK.out _ _ ⟨K1.out.cells, K1⟩ (fun hHeld => ?_)
  clear hK K
  try simp only [Act.put, List.setIfInBounds_toArray, List.set_cons_zero, List.set_cons_succ]
  refine wpAnyH_ready (rs := [33]) (by kernel_rfl) (by simp) ?_
  refine AllReadyH.cons (o := { dst := some 48, op := Op.call { callee := Callee.value (Operand.func 21), args := #[Operand.tmp 46, Operand.tmp 47], argTypes := #[23, 23] }, type := 4, pos := "law.go:46", after := #[{ on := 31, ground := Ground.data }, { on := 32, ground := Ground.data }, { on := 30, ground := Ground.chain }, { on := 27, ground := Ground.guard }], guard := some (27, true) }) rfl (fun K hK => ?_) AllReadyH.nil
  go_simp
  refine (mWeakE_is HY).mono ?_; rintro e u1 ⟨rfl, hu⟩
  have K1 := box (hHeld.2.out.next hu)
  clear hu
  go_wp2_with fail
  refine hK.out _ _ ⟨K1.out.cells, K1⟩ (fun hHeld => ?_)
  clear hK K
  try simp only [Act.put, List.setIfInBounds_toArray, List.set_cons_zero, List.set_cons_succ]
  refine wpAnyH_take (i := 34) (oi := { dst := some 49, op := Op.binOp BinOp.eql 4 (Operand.tmp 45) (Operand.tmp 48) 4, type := 4, pos := "law.go:46", after := #[{ on := 30, ground := Ground.data }, { on := 33, ground := Ground.data }, { on := 27, ground := Ground.guard }], guard := some (27, true) }) (v := ?v34z1) rfl (by kernel_rfl) (by kernel_rfl) (by kernel_rfl) (fun _ _ _ h => h) (Or.inl ⟨by rfl, ?y34z1⟩) (by assumption) ?r34z1
  case y34z1 => (intro w hSw; (try dsimp only at hSw); go_simp; first | done | with_reducible rfl)
  try simp only [Act.put, List.setIfInBounds_toArray, List.set_cons_zero, List.set_cons_succ]
  refine wpAnyH_take (i := 35) (oi := { dst := some 50, op := Op.pick (Operand.tmp 42) (Operand.tmp 49) (Operand.const (Value.bool false)), type := 4, pos := "law.go:46", after := #[{ on := 27, ground := Ground.data }, { on := 34, ground := Ground.data }], guard := none }) (v := ?v35z1) rfl (by kernel_rfl) (by kernel_rfl) (by kernel_rfl) (fun _ _ _ h => h) (Or.inl ⟨by rfl, ?y35z1⟩) (by assumption) ?r35z1
  case y35z1 => (intro w hSw; (try dsimp only at hSw); go_simp; first | done | with_reducible rfl)
  try simp only [Act.put, List.setIfInBounds_toArray, List.set_cons_zero, List.set_cons_succ]
  refine wpAnyH_take (i := 36) (oi := { dst := some 51, op := Op.move (Operand.tmp 50), type := 4, pos := "law.go:46", after := #[{ on := 35, ground := Ground.data }, { on := 33, ground := Ground.chain }], guard := none }) (v := ?v36z1) rfl (by kernel_rfl) (by kernel_rfl) (by kernel_rfl) (fun _ _ _ h => h) (Or.inl ⟨by rfl, ?y36z1⟩) (by assumption) ?r36z1
  case y36z1 => (intro w hSw; (try dsimp only at hSw); go_simp; first | done | with_reducible rfl)
  try simp only [Act.put, List.setIfInBounds_toArray, List.set_cons_zero, List.set_cons_succ]
  refine wpAnyH_ready (rs := [37]) (by kernel_rfl) (by simp) ?_
  refine AllReadyH.cons (o := { dst := some 52, op := Op.call { callee := Callee.value (Operand.func 12), args := #[], argTypes := #[] }, type := 4, pos := "law.go:46", after := #[{ on := 36, ground := Ground.chain }, { on := 36, ground := Ground.guard }], guard := some (36, true) }) rfl (fun K hK => ?_) AllReadyH.nil
  go_simp
  refine (awake21_any _).mono ?_; rintro e u1 ⟨rfl, hu⟩
  have K1 := box (hHeld.2.out.next hu)
  clear hu
  go_wp2_with fail
  refine hK.out _ _ ⟨K1.out.cells, K1⟩ (fun hHeld => ?_)
  clear hK K
  try simp only [Act.put, List.setIfInBounds_toArray, List.set_cons_zero, List.set_cons_succ]
  refine wpAnyH_take (i := 38) (oi := { dst := some 53, op := Op.pick (Operand.tmp 51) (Operand.tmp 52) (Operand.const (Value.bool false)), type := 4, pos := "law.go:46", after := #[{ on := 36, ground := Ground.data }, { on := 37, ground := Ground.data }], guard := none }) (v := ?v38z1) rfl (by kernel_rfl) (by kernel_rfl) (by kernel_rfl) (fun _ _ _ h => h) (Or.inl ⟨by rfl, ?y38z1⟩) (by assumption) ?r38z1
  case y38z1 => (intro w hSw; (try dsimp only at hSw); go_simp; first | done | with_reducible rfl)
  try simp only [Act.put, List.setIfInBounds_toArray, List.set_cons_zero, List.set_cons_succ]
  refine wpAnyH_take (i := 39) (oi := { dst := some 4, op := Op.assign (Operand.tmp 53), type := 4, pos := "law.go:46", after := #[{ on := 38, ground := Ground.data }, { on := 37, ground := Ground.chain }, { on := 0, ground := Ground.phase }, { on := 1, ground := Ground.phase }, { on := 2, ground := Ground.phase }, { on := 3, ground := Ground.phase }, { on := 4, ground := Ground.phase }, { on := 5, ground := Ground.phase }, { on := 6, ground := Ground.phase }, { on := 7, ground := Ground.phase }, { on := 8, ground := Ground.phase }, { on := 9, ground := Ground.phase }, { on := 10, ground := Ground.phase }, { on := 11, ground := Ground.phase }, { on := 12, ground := Ground.phase }, { on := 13, ground := Ground.phase }, { on := 14, ground := Ground.phase }, { on := 15, ground := Ground.phase }, { on := 16, ground := Ground.phase }, { on := 17, ground := Ground.phase }, { on := 18, ground := Ground.phase }, { on := 19, ground := Ground.phase }, { on := 20, ground := Ground.phase }, { on := 21, ground := Ground.phase }, { on := 22, ground := Ground.phase }, { on := 23, ground := Ground.phase }, { on := 24, ground := Ground.phase }, { on := 25, ground := Ground.phase }, { on := 26, ground := Ground.phase }, { on := 27, ground := Ground.phase }, { on := 28, ground := Ground.phase }, { on := 29, ground := Ground.phase }, { on := 30, ground := Ground.phase }, { on := 31, ground := Ground.phase }, { on := 32, ground := Ground.phase }, { on := 33, ground := Ground.phase }, { on := 34, ground := Ground.phase }, { on := 35, ground := Ground.phase }, { on := 36, ground := Ground.phase }, { on := 37, ground := Ground.phase }, { on := 38, ground := Ground.phase }], guard := none }) (v := ?v39z1) rfl (by kernel_rfl) (by kernel_rfl) (by kernel_rfl) (fun _ _ _ h => h) (Or.inl ⟨by rfl, ?y39z1⟩) (by assumption) ?r39z1
  case y39z1 => (intro w hSw; (try dsimp only at hSw); go_simp; first | done | with_reducible rfl)
  try simp only [Act.put, List.setIfInBounds_toArray, List.set_cons_zero, List.set_cons_succ]
  refine wpAnyH_done (by kernel_rfl) ?_ _
  have K9 := hHeld.2
  clear hHeld
  go_wp2
  go_ret
  exact ⟨rfl, K9.out.b⟩
set_option maxHeartbeats 8000000 in
theorem compares21_ft (b : Bool) (t : ByteArray) (c : Bool) (u : ByteArray) (w : World) (ht : t.size ≤ 1000) (hu : u.size ≤ 1000) (HS : Box (strongE (b, t) (c, u) = false)) (HW : Box (weakE (b, t) (c, u) = true)) :
    Calls Try.prog 5 #[.agg #[.bool b, .string t], .agg #[.bool c, .string u]] w fun e w' => e = .returned (.bool true) ∧ Below w.heap.size w w' := by
  have i1 : ¬ (1000 : Int) < (t.size : Int) := by omega
  have i2 : ¬ (1000 : Int) < (u.size : Int) := by omega
  have HY : Box (weakE (c, u) (b, t) = true) := box (by rw [weak_comm]; exact HW.out)
  have K0 := box (Two21.new (w := w) (c0 := .bool b) (c1 := .string t) (d0 := .bool c) (d1 := .string u) 23 23)
  go_enter Try.func5, Try.ntmps5
  go_wp2
  refine wp_region_held_drew (S := (fun w' : World => (w'.cell? ⟨w.heap.size, 0, none⟩ = some (.bool b) ∧ w'.cell? ⟨w.heap.size, 1, none⟩ = some (.string t) ∧ w'.cell? ⟨w.heap.size + 1, 0, none⟩ = some (.bool c) ∧ w'.cell? ⟨w.heap.size + 1, 1, none⟩ = some (.string u)) ∧ Box (Two21 w (.bool b) (.string t) (.bool c) (.string u) w'))) (by kernel_rfl) ⟨(K0.out.drewN (n := 1)).cells, box (K0.out.drewN (n := 1))⟩ (fun hHeld => ?_)
  refine wpAnyH_take (i := 0) (oi := { dst := some 15, op := Op.load 23 (Operand.tmp 2), type := 23, pos := "law.go:46", after := #[], guard := none }) (v := ?v0z2) rfl (by kernel_rfl) (by kernel_rfl) (by kernel_rfl) (fun _ _ _ h => h) (Or.inl ⟨by rfl, ?y0z2⟩) (by assumption) ?r0z2
  case y0z2 => (intro w hSw; (try dsimp only at hSw); go_simp; first | done | with_reducible rfl)
  try simp only [Act.put, List.setIfInBounds_toArray, List.set_cons_zero, List.set_cons_succ]
  refine wpAnyH_take (i := 1) (oi := { dst := some 16, op := Op.load 23 (Operand.tmp 3), type := 23, pos := "law.go:46", after := #[], guard := none }) (v := ?v1z2) rfl (by kernel_rfl) (by kernel_rfl) (by kernel_rfl) (fun _ _ _ h => h) (Or.inl ⟨by rfl, ?y1z2⟩) (by assumption) ?r1z2
  case y1z2 => (intro w hSw; (try dsimp only at hSw); go_simp; first | done | with_reducible rfl)
  try simp only [Act.put, List.setIfInBounds_toArray, List.set_cons_zero, List.set_cons_succ]
  refine wpAnyH_take (i := 3) (oi := { dst := some 18, op := Op.load 23 (Operand.tmp 2), type := 23, pos := "law.go:46", after := #[], guard := none }) (v := ?v3z2) rfl (by kernel_rfl) (by kernel_rfl) (by kernel_rfl) (fun _ _ _ h => h) (Or.inl ⟨by rfl, ?y3z2⟩) (by assumption) ?r3z2
  case y3z2 => (intro w hSw; (try dsimp only at hSw); go_simp; first | done | with_reducible rfl)
  try simp only [Act.put, List.setIfInBounds_toArray, List.set_cons_zero, List.set_cons_succ]
  refine wpAnyH_take (i := 4) (oi := { dst := some 19, op := Op.load 23 (Operand.tmp 3), type := 23, pos := "law.go:46", after := #[], guard := none }) (v := ?v4z2) rfl (by kernel_rfl) (by kernel_rfl) (by kernel_rfl) (fun _ _ _ h => h) (Or.inl ⟨by rfl, ?y4z2⟩) (by assumption) ?r4z2
  case y4z2 => (intro w hSw; (try dsimp only at hSw); go_simp; first | done | with_reducible rfl)
  try simp only [Act.put, List.setIfInBounds_toArray, List.set_cons_zero, List.set_cons_succ]
  refine wpAnyH_ready (rs := [2]) (by kernel_rfl) (by simp) ?_
  refine AllReadyH.cons (o := { dst := some 17, op := Op.call { callee := Callee.value (Operand.func 19), args := #[Operand.tmp 15, Operand.tmp 16], argTypes := #[23, 23] }, type := 4, pos := "law.go:46", after := #[{ on := 0, ground := Ground.data }, { on := 1, ground := Ground.data }], guard := none }) rfl (fun K hK => ?_) AllReadyH.nil
  go_simp
  refine (mStrongE_is HS).mono ?_; rintro e u1 ⟨rfl, hu⟩
  have K1 := box (hHeld.2.out.next hu)
  clear hu
  go_wp2_with fail
  refine hK.out _ _ ⟨K1.out.cells, K1⟩ (fun hHeld => ?_)
  clear hK K
  try simp only [Act.put, List.setIfInBounds_toArray, List.set_cons_zero, List.set_cons_succ]
  refine wpAnyH_ready (rs := [5]) (by kernel_rfl) (by simp) ?_
  refine AllReadyH.cons (o := { dst := some 20, op := Op.call { callee := Callee.value (Operand.func 20), args := #[Operand.tmp 18, Operand.tmp 19], argTypes := #[23, 23] }, type := 4, pos := "law.go:46", after := #[{ on := 3, ground := Ground.data }, { on := 4, ground := Ground.data }, { on := 2, ground := Ground.chain }], guard := none }) rfl (fun K hK => ?_) AllReadyH.nil
  go_simp
  refine (rStrongE_is HS).mono ?_; rintro e u1 ⟨rfl, hu⟩
  have K1 := box (hHeld.2.out.next hu)
  clear hu
  go_wp2_with fail
  refine hK.out _ _ ⟨K1.out.cells, K1⟩ (fun hHeld => ?_)
  clear hK K
  try simp only [Act.put, List.setIfInBounds_toArray, List.set_cons_zero, List.set_cons_succ]
  refine wpAnyH_take (i := 6) (oi := { dst := some 21, op := Op.binOp BinOp.eql 4 (Operand.tmp 17) (Operand.tmp 20) 4, type := 4, pos := "law.go:46", after := #[{ on := 2, ground := Ground.data }, { on := 5, ground := Ground.data }], guard := none }) (v := ?v6z2) rfl (by kernel_rfl) (by kernel_rfl) (by kernel_rfl) (fun _ _ _ h => h) (Or.inl ⟨by rfl, ?y6z2⟩) (by assumption) ?r6z2
  case y6z2 => (intro w hSw; (try dsimp only at hSw); go_simp; first | done | with_reducible rfl)
  try simp only [Act.put, List.setIfInBounds_toArray, List.set_cons_zero, List.set_cons_succ]
  refine wpAnyH_take (i := 7) (oi := { dst := some 22, op := Op.move (Operand.tmp 21), type := 4, pos := "law.go:46", after := #[{ on := 6, ground := Ground.data }, { on := 5, ground := Ground.chain }], guard := none }) (v := ?v7z2) rfl (by kernel_rfl) (by kernel_rfl) (by kernel_rfl) (fun _ _ _ h => h) (Or.inl ⟨by rfl, ?y7z2⟩) (by assumption) ?r7z2
  case y7z2 => (intro w hSw; (try dsimp only at hSw); go_simp; first | done | with_reducible rfl)
  try simp only [Act.put, List.setIfInBounds_toArray, List.set_cons_zero, List.set_cons_succ]
  refine wpAnyH_take (i := 8) (oi := { dst := some 23, op := Op.load 23 (Operand.tmp 2), type := 23, pos := "law.go:46", after := #[{ on := 7, ground := Ground.guard }], guard := some (7, true) }) (v := ?v8z2) rfl (by kernel_rfl) (by kernel_rfl) (by kernel_rfl) (fun _ _ _ h => h) (Or.inl ⟨by rfl, ?y8z2⟩) (by assumption) ?r8z2
  case y8z2 => (intro w hSw; (try dsimp only at hSw); go_simp; first | done | with_reducible rfl)
  try simp only [Act.put, List.setIfInBounds_toArray, List.set_cons_zero, List.set_cons_succ]
  refine wpAnyH_take (i := 9) (oi := { dst := some 24, op := Op.load 23 (Operand.tmp 3), type := 23, pos := "law.go:46", after := #[{ on := 7, ground := Ground.guard }], guard := some (7, true) }) (v := ?v9z2) rfl (by kernel_rfl) (by kernel_rfl) (by kernel_rfl) (fun _ _ _ h => h) (Or.inl ⟨by rfl, ?y9z2⟩) (by assumption) ?r9z2
  case y9z2 => (intro w hSw; (try dsimp only at hSw); go_simp; first | done | with_reducible rfl)
  try simp only [Act.put, List.setIfInBounds_toArray, List.set_cons_zero, List.set_cons_succ]
  refine wpAnyH_take (i := 11) (oi := { dst := some 26, op := Op.load 23 (Operand.tmp 2), type := 23, pos := "law.go:46", after := #[{ on := 7, ground := Ground.guard }], guard := some (7, true) }) (v := ?v11z2) rfl (by kernel_rfl) (by kernel_rfl) (by kernel_rfl) (fun _ _ _ h => h) (Or.inl ⟨by rfl, ?y11z2⟩) (by assumption) ?r11z2
  case y11z2 => (intro w hSw; (try dsimp only at hSw); go_simp; first | done | with_reducible rfl)
  try simp only [Act.put, List.setIfInBounds_toArray, List.set_cons_zero, List.set_cons_succ]
  refine wpAnyH_take (i := 12) (oi := { dst := some 27, op := Op.load 23 (Operand.tmp 3), type := 23, pos := "law.go:46", after := #[{ on := 7, ground := Ground.guard }], guard := some (7, true) }) (v := ?v12z2) rfl (by kernel_rfl) (by kernel_rfl) (by kernel_rfl) (fun _ _ _ h => h) (Or.inl ⟨by rfl, ?y12z2⟩) (by assumption) ?r12z2
  case y12z2 => (intro w hSw; (try dsimp only at hSw); go_simp; first | done | with_reducible rfl)
  try simp only [Act.put, List.setIfInBounds_toArray, List.set_cons_zero, List.set_cons_succ]
  refine wpAnyH_ready (rs := [10]) (by kernel_rfl) (by simp) ?_
  refine AllReadyH.cons (o := { dst := some 25, op := Op.call { callee := Callee.value (Operand.func 21), args := #[Operand.tmp 23, Operand.tmp 24], argTypes := #[23, 23] }, type := 4, pos := "law.go:46", after := #[{ on := 8, ground := Ground.data }, { on := 9, ground := Ground.data }, { on := 7, ground := Ground.chain }, { on := 7, ground := Ground.guard }], guard := some (7, true) }) rfl (fun K hK => ?_) AllReadyH.nil
  go_simp
  refine (mWeakE_is HW).mono ?_; rintro e u1 ⟨rfl, hu⟩
  have K1 := box (hHeld.2.out.next hu)
  clear hu
  go_wp2_with fail
  refine hK.out _ _ ⟨K1.out.cells, K1⟩ (fun hHeld => ?_)
  clear hK K
  try simp only [Act.put, List.setIfInBounds_toArray, List.set_cons_zero, List.set_cons_succ]
  refine wpAnyH_ready (rs := [13]) (by kernel_rfl) (by simp) ?_
  refine AllReadyH.cons (o := { dst := some 28, op := Op.call { callee := Callee.value (Operand.func 22), args := #[Operand.tmp 26, Operand.tmp 27], argTypes := #[23, 23] }, type := 4, pos := "law.go:46", after := #[{ on := 11, ground := Ground.data }, { on := 12, ground := Ground.data }, { on := 10, ground := Ground.chain }, { on := 7, ground := Ground.guard }], guard := some (7, true) }) rfl (fun K hK => ?_) AllReadyH.nil
  go_simp
  refine (rWeakE_is HW).mono ?_; rintro e u1 ⟨rfl, hu⟩
  have K1 := box (hHeld.2.out.next hu)
  clear hu
  go_wp2_with fail
  refine hK.out _ _ ⟨K1.out.cells, K1⟩ (fun hHeld => ?_)
  clear hK K
  try simp only [Act.put, List.setIfInBounds_toArray, List.set_cons_zero, List.set_cons_succ]
  refine wpAnyH_take (i := 14) (oi := { dst := some 29, op := Op.binOp BinOp.eql 4 (Operand.tmp 25) (Operand.tmp 28) 4, type := 4, pos := "law.go:46", after := #[{ on := 10, ground := Ground.data }, { on := 13, ground := Ground.data }, { on := 7, ground := Ground.guard }], guard := some (7, true) }) (v := ?v14z2) rfl (by kernel_rfl) (by kernel_rfl) (by kernel_rfl) (fun _ _ _ h => h) (Or.inl ⟨by rfl, ?y14z2⟩) (by assumption) ?r14z2
  case y14z2 => (intro w hSw; (try dsimp only at hSw); go_simp; first | done | with_reducible rfl)
  try simp only [Act.put, List.setIfInBounds_toArray, List.set_cons_zero, List.set_cons_succ]
  refine wpAnyH_take (i := 15) (oi := { dst := some 30, op := Op.pick (Operand.tmp 22) (Operand.tmp 29) (Operand.const (Value.bool false)), type := 4, pos := "law.go:46", after := #[{ on := 7, ground := Ground.data }, { on := 14, ground := Ground.data }], guard := none }) (v := ?v15z2) rfl (by kernel_rfl) (by kernel_rfl) (by kernel_rfl) (fun _ _ _ h => h) (Or.inl ⟨by rfl, ?y15z2⟩) (by assumption) ?r15z2
  case y15z2 => (intro w hSw; (try dsimp only at hSw); go_simp; first | done | with_reducible rfl)
  try simp only [Act.put, List.setIfInBounds_toArray, List.set_cons_zero, List.set_cons_succ]
  refine wpAnyH_take (i := 16) (oi := { dst := some 31, op := Op.move (Operand.tmp 30), type := 4, pos := "law.go:46", after := #[{ on := 15, ground := Ground.data }, { on := 13, ground := Ground.chain }], guard := none }) (v := ?v16z2) rfl (by kernel_rfl) (by kernel_rfl) (by kernel_rfl) (fun _ _ _ h => h) (Or.inl ⟨by rfl, ?y16z2⟩) (by assumption) ?r16z2
  case y16z2 => (intro w hSw; (try dsimp only at hSw); go_simp; first | done | with_reducible rfl)
  try simp only [Act.put, List.setIfInBounds_toArray, List.set_cons_zero, List.set_cons_succ]
  refine wpAnyH_take (i := 17) (oi := { dst := some 32, op := Op.load 23 (Operand.tmp 2), type := 23, pos := "law.go:46", after := #[{ on := 16, ground := Ground.guard }], guard := some (16, true) }) (v := ?v17z2) rfl (by kernel_rfl) (by kernel_rfl) (by kernel_rfl) (fun _ _ _ h => h) (Or.inl ⟨by rfl, ?y17z2⟩) (by assumption) ?r17z2
  case y17z2 => (intro w hSw; (try dsimp only at hSw); go_simp; first | done | with_reducible rfl)
  try simp only [Act.put, List.setIfInBounds_toArray, List.set_cons_zero, List.set_cons_succ]
  refine wpAnyH_take (i := 18) (oi := { dst := some 33, op := Op.load 23 (Operand.tmp 3), type := 23, pos := "law.go:46", after := #[{ on := 16, ground := Ground.guard }], guard := some (16, true) }) (v := ?v18z2) rfl (by kernel_rfl) (by kernel_rfl) (by kernel_rfl) (fun _ _ _ h => h) (Or.inl ⟨by rfl, ?y18z2⟩) (by assumption) ?r18z2
  case y18z2 => (intro w hSw; (try dsimp only at hSw); go_simp; first | done | with_reducible rfl)
  try simp only [Act.put, List.setIfInBounds_toArray, List.set_cons_zero, List.set_cons_succ]
  refine wpAnyH_ready (rs := [19]) (by kernel_rfl) (by simp) ?_
  refine AllReadyH.cons (o := { dst := some 34, op := Op.call { callee := Callee.value (Operand.func 19), args := #[Operand.tmp 32, Operand.tmp 33], argTypes := #[23, 23] }, type := 4, pos := "law.go:46", after := #[{ on := 17, ground := Ground.data }, { on := 18, ground := Ground.data }, { on := 16, ground := Ground.chain }, { on := 16, ground := Ground.guard }], guard := some (16, true) }) rfl (fun K hK => ?_) AllReadyH.nil
  go_simp
  refine (mStrongE_is HS).mono ?_; rintro e u1 ⟨rfl, hu⟩
  have K1 := box (hHeld.2.out.next hu)
  clear hu
  go_wp2_with fail
  refine hK.out _ _ ⟨K1.out.cells, K1⟩ (fun hHeld => ?_)
  clear hK K
  try simp only [Act.put, List.setIfInBounds_toArray, List.set_cons_zero, List.set_cons_succ]
  refine wpAnyH_take (i := 20) (oi := { dst := some 35, op := Op.unOp UnOp.not 4 (Operand.tmp 34), type := 4, pos := "law.go:46", after := #[{ on := 19, ground := Ground.data }, { on := 16, ground := Ground.guard }], guard := some (16, true) }) (v := ?v20z2) rfl (by kernel_rfl) (by kernel_rfl) (by kernel_rfl) (fun _ _ _ h => h) (Or.inl ⟨by rfl, ?y20z2⟩) (by assumption) ?r20z2
  case y20z2 => (intro w hSw; (try dsimp only at hSw); go_simp; first | done | with_reducible rfl)
  try simp only [Act.put, List.setIfInBounds_toArray, List.set_cons_zero, List.set_cons_succ]
  refine wpAnyH_take (i := 21) (oi := { dst := some 36, op := Op.move (Operand.tmp 35), type := 4, pos := "law.go:46", after := #[{ on := 20, ground := Ground.data }, { on := 19, ground := Ground.chain }, { on := 16, ground := Ground.guard }], guard := some (16, true) }) (v := ?v21z2) rfl (by kernel_rfl) (by kernel_rfl) (by kernel_rfl) (fun _ _ _ h => h) (Or.inl ⟨by rfl, ?y21z2⟩) (by assumption) ?r21z2
  case y21z2 => (intro w hSw; (try dsimp only at hSw); go_simp; first | done | with_reducible rfl)
  try simp only [Act.put, List.setIfInBounds_toArray, List.set_cons_zero, List.set_cons_succ]
  refine wpAnyH_take (i := 22) (oi := { dst := some 37, op := Op.load 23 (Operand.tmp 2), type := 23, pos := "law.go:46", after := #[{ on := 21, ground := Ground.guard }], guard := some (21, false) }) (v := undef) rfl (by kernel_rfl) (by kernel_rfl) (by kernel_rfl) (fun _ _ _ h => h) (Or.inr ⟨by rfl, rfl⟩) (by assumption) ?_
  try simp only [Act.put, List.setIfInBounds_toArray, List.set_cons_zero, List.set_cons_succ]
  refine wpAnyH_take (i := 23) (oi := { dst := some 38, op := Op.load 23 (Operand.tmp 3), type := 23, pos := "law.go:46", after := #[{ on := 21, ground := Ground.guard }], guard := some (21, false) }) (v := undef) rfl (by kernel_rfl) (by kernel_rfl) (by kernel_rfl) (fun _ _ _ h => h) (Or.inr ⟨by rfl, rfl⟩) (by assumption) ?_
  try simp only [Act.put, List.setIfInBounds_toArray, List.set_cons_zero, List.set_cons_succ]
  refine wpAnyH_take (i := 24) (oi := { dst := some 39, op := Op.call { callee := Callee.value (Operand.func 21), args := #[Operand.tmp 37, Operand.tmp 38], argTypes := #[23, 23] }, type := 4, pos := "law.go:46", after := #[{ on := 22, ground := Ground.data }, { on := 23, ground := Ground.data }, { on := 21, ground := Ground.chain }, { on := 21, ground := Ground.guard }], guard := some (21, false) }) (v := undef) rfl (by kernel_rfl) (by kernel_rfl) (by kernel_rfl) (fun _ _ _ h => h) (Or.inr ⟨by rfl, rfl⟩) (by assumption) ?_
  try simp only [Act.put, List.setIfInBounds_toArray, List.set_cons_zero, List.set_cons_succ]
  refine wpAnyH_take (i := 25) (oi := { dst := some 40, op := Op.pick (Operand.tmp 36) (Operand.const (Value.bool true)) (Operand.tmp 39), type := 4, pos := "law.go:46", after := #[{ on := 21, ground := Ground.data }, { on := 24, ground := Ground.data }, { on := 16, ground := Ground.guard }], guard := some (16, true) }) (v := ?v25z2) rfl (by kernel_rfl) (by kernel_rfl) (by kernel_rfl) (fun _ _ _ h => h) (Or.inl ⟨by rfl, ?y25z2⟩) (by assumption) ?r25z2
  case y25z2 => (intro w hSw; (try dsimp only at hSw); go_simp; first | done | with_reducible rfl)
  try simp only [Act.put, List.setIfInBounds_toArray, List.set_cons_zero, List.set_cons_succ]
  refine wpAnyH_take (i := 26) (oi := { dst := some 41, op := Op.pick (Operand.tmp 31) (Operand.tmp 40) (Operand.const (Value.bool false)), type := 4, pos := "law.go:46", after := #[{ on := 16, ground := Ground.data }, { on := 25, ground := Ground.data }], guard := none }) (v := ?v26z2) rfl (by kernel_rfl) (by kernel_rfl) (by kernel_rfl) (fun _ _ _ h => h) (Or.inl ⟨by rfl, ?y26z2⟩) (by assumption) ?r26z2
  case y26z2 => (intro w hSw; (try dsimp only at hSw); go_simp; first | done | with_reducible rfl)
  try simp only [Act.put, List.setIfInBounds_toArray, List.set_cons_zero, List.set_cons_succ]
  refine wpAnyH_take (i := 27) (oi := { dst := some 42, op := Op.move (Operand.tmp 41), type := 4, pos := "law.go:46", after := #[{ on := 26, ground := Ground.data }, { on := 24, ground := Ground.chain }], guard := none }) (v := ?v27z2) rfl (by kernel_rfl) (by kernel_rfl) (by kernel_rfl) (fun _ _ _ h => h) (Or.inl ⟨by rfl, ?y27z2⟩) (by assumption) ?r27z2
  case y27z2 => (intro w hSw; (try dsimp only at hSw); go_simp; first | done | with_reducible rfl)
  try simp only [Act.put, List.setIfInBounds_toArray, List.set_cons_zero, List.set_cons_succ]
  refine wpAnyH_take (i := 28) (oi := { dst := some 43, op := Op.load 23 (Operand.tmp 2), type := 23, pos := "law.go:46", after := #[{ on := 27, ground := Ground.guard }], guard := some (27, true) }) (v := ?v28z2) rfl (by kernel_rfl) (by kernel_rfl) (by kernel_rfl) (fun _ _ _ h => h) (Or.inl ⟨by rfl, ?y28z2⟩) (by assumption) ?r28z2
  case y28z2 => (intro w hSw; (try dsimp only at hSw); go_simp; first | done | with_reducible rfl)
  try simp only [Act.put, List.setIfInBounds_toArray, List.set_cons_zero, List.set_cons_succ]
  refine wpAnyH_take (i := 29) (oi := { dst := some 44, op := Op.load 23 (Operand.tmp 3), type := 23, pos := "law.go:46", after := #[{ on := 27, ground := Ground.guard }], guard := some (27, true) }) (v := ?v29z2) rfl (by kernel_rfl) (by kernel_rfl) (by kernel_rfl) (fun _ _ _ h => h) (Or.inl ⟨by rfl, ?y29z2⟩) (by assumption) ?r29z2
  case y29z2 => (intro w hSw; (try dsimp only at hSw); go_simp; first | done | with_reducible rfl)
  try simp only [Act.put, List.setIfInBounds_toArray, List.set_cons_zero, List.set_cons_succ]
  refine wpAnyH_take (i := 31) (oi := { dst := some 46, op := Op.load 23 (Operand.tmp 3), type := 23, pos := "law.go:46", after := #[{ on := 27, ground := Ground.guard }], guard := some (27, true) }) (v := ?v31z2) rfl (by kernel_rfl) (by kernel_rfl) (by kernel_rfl) (fun _ _ _ h => h) (Or.inl ⟨by rfl, ?y31z2⟩) (by assumption) ?r31z2
  case y31z2 => (intro w hSw; (try dsimp only at hSw); go_simp; first | done | with_reducible rfl)
  try simp only [Act.put, List.setIfInBounds_toArray, List.set_cons_zero, List.set_cons_succ]
  refine wpAnyH_take (i := 32) (oi := { dst := some 47, op := Op.load 23 (Operand.tmp 2), type := 23, pos := "law.go:46", after := #[{ on := 27, ground := Ground.guard }], guard := some (27, true) }) (v := ?v32z2) rfl (by kernel_rfl) (by kernel_rfl) (by kernel_rfl) (fun _ _ _ h => h) (Or.inl ⟨by rfl, ?y32z2⟩) (by assumption) ?r32z2
  case y32z2 => (intro w hSw; (try dsimp only at hSw); go_simp; first | done | with_reducible rfl)
  try simp only [Act.put, List.setIfInBounds_toArray, List.set_cons_zero, List.set_cons_succ]
  refine wpAnyH_ready (rs := [30]) (by kernel_rfl) (by simp) ?_
  refine AllReadyH.cons (o := { dst := some 45, op := Op.call { callee := Callee.value (Operand.func 21), args := #[Operand.tmp 43, Operand.tmp 44], argTypes := #[23, 23] }, type := 4, pos := "law.go:46", after := #[{ on := 28, ground := Ground.data }, { on := 29, ground := Ground.data }, { on := 27, ground := Ground.chain }, { on := 27, ground := Ground.guard }], guard := some (27, true) }) rfl (fun K hK => ?_) AllReadyH.nil
  go_simp
  refine (mWeakE_is HW).mono ?_; rintro e u1 ⟨rfl, hu⟩
  have K1 := box (hHeld.2.out.next hu)
  clear hu
  go_wp2_with fail
  refine hK.out _ _ ⟨K1.out.cells, K1⟩ (fun hHeld => ?_)
  clear hK K
  try simp only [Act.put, List.setIfInBounds_toArray, List.set_cons_zero, List.set_cons_succ]
  refine wpAnyH_ready (rs := [33]) (by kernel_rfl) (by simp) ?_
  refine AllReadyH.cons (o := { dst := some 48, op := Op.call { callee := Callee.value (Operand.func 21), args := #[Operand.tmp 46, Operand.tmp 47], argTypes := #[23, 23] }, type := 4, pos := "law.go:46", after := #[{ on := 31, ground := Ground.data }, { on := 32, ground := Ground.data }, { on := 30, ground := Ground.chain }, { on := 27, ground := Ground.guard }], guard := some (27, true) }) rfl (fun K hK => ?_) AllReadyH.nil
  go_simp
  refine (mWeakE_is HY).mono ?_; rintro e u1 ⟨rfl, hu⟩
  have K1 := box (hHeld.2.out.next hu)
  clear hu
  go_wp2_with fail
  refine hK.out _ _ ⟨K1.out.cells, K1⟩ (fun hHeld => ?_)
  clear hK K
  try simp only [Act.put, List.setIfInBounds_toArray, List.set_cons_zero, List.set_cons_succ]
  refine wpAnyH_take (i := 34) (oi := { dst := some 49, op := Op.binOp BinOp.eql 4 (Operand.tmp 45) (Operand.tmp 48) 4, type := 4, pos := "law.go:46", after := #[{ on := 30, ground := Ground.data }, { on := 33, ground := Ground.data }, { on := 27, ground := Ground.guard }], guard := some (27, true) }) (v := ?v34z2) rfl (by kernel_rfl) (by kernel_rfl) (by kernel_rfl) (fun _ _ _ h => h) (Or.inl ⟨by rfl, ?y34z2⟩) (by assumption) ?r34z2
  case y34z2 => (intro w hSw; (try dsimp only at hSw); go_simp; first | done | with_reducible rfl)
  try simp only [Act.put, List.setIfInBounds_toArray, List.set_cons_zero, List.set_cons_succ]
  refine wpAnyH_take (i := 35) (oi := { dst := some 50, op := Op.pick (Operand.tmp 42) (Operand.tmp 49) (Operand.const (Value.bool false)), type := 4, pos := "law.go:46", after := #[{ on := 27, ground := Ground.data }, { on := 34, ground := Ground.data }], guard := none }) (v := ?v35z2) rfl (by kernel_rfl) (by kernel_rfl) (by kernel_rfl) (fun _ _ _ h => h) (Or.inl ⟨by rfl, ?y35z2⟩) (by assumption) ?r35z2
  case y35z2 => (intro w hSw; (try dsimp only at hSw); go_simp; first | done | with_reducible rfl)
  try simp only [Act.put, List.setIfInBounds_toArray, List.set_cons_zero, List.set_cons_succ]
  refine wpAnyH_take (i := 36) (oi := { dst := some 51, op := Op.move (Operand.tmp 50), type := 4, pos := "law.go:46", after := #[{ on := 35, ground := Ground.data }, { on := 33, ground := Ground.chain }], guard := none }) (v := ?v36z2) rfl (by kernel_rfl) (by kernel_rfl) (by kernel_rfl) (fun _ _ _ h => h) (Or.inl ⟨by rfl, ?y36z2⟩) (by assumption) ?r36z2
  case y36z2 => (intro w hSw; (try dsimp only at hSw); go_simp; first | done | with_reducible rfl)
  try simp only [Act.put, List.setIfInBounds_toArray, List.set_cons_zero, List.set_cons_succ]
  refine wpAnyH_ready (rs := [37]) (by kernel_rfl) (by simp) ?_
  refine AllReadyH.cons (o := { dst := some 52, op := Op.call { callee := Callee.value (Operand.func 12), args := #[], argTypes := #[] }, type := 4, pos := "law.go:46", after := #[{ on := 36, ground := Ground.chain }, { on := 36, ground := Ground.guard }], guard := some (36, true) }) rfl (fun K hK => ?_) AllReadyH.nil
  go_simp
  refine (awake21_any _).mono ?_; rintro e u1 ⟨rfl, hu⟩
  have K1 := box (hHeld.2.out.next hu)
  clear hu
  go_wp2_with fail
  refine hK.out _ _ ⟨K1.out.cells, K1⟩ (fun hHeld => ?_)
  clear hK K
  try simp only [Act.put, List.setIfInBounds_toArray, List.set_cons_zero, List.set_cons_succ]
  refine wpAnyH_take (i := 38) (oi := { dst := some 53, op := Op.pick (Operand.tmp 51) (Operand.tmp 52) (Operand.const (Value.bool false)), type := 4, pos := "law.go:46", after := #[{ on := 36, ground := Ground.data }, { on := 37, ground := Ground.data }], guard := none }) (v := ?v38z2) rfl (by kernel_rfl) (by kernel_rfl) (by kernel_rfl) (fun _ _ _ h => h) (Or.inl ⟨by rfl, ?y38z2⟩) (by assumption) ?r38z2
  case y38z2 => (intro w hSw; (try dsimp only at hSw); go_simp; first | done | with_reducible rfl)
  try simp only [Act.put, List.setIfInBounds_toArray, List.set_cons_zero, List.set_cons_succ]
  refine wpAnyH_take (i := 39) (oi := { dst := some 4, op := Op.assign (Operand.tmp 53), type := 4, pos := "law.go:46", after := #[{ on := 38, ground := Ground.data }, { on := 37, ground := Ground.chain }, { on := 0, ground := Ground.phase }, { on := 1, ground := Ground.phase }, { on := 2, ground := Ground.phase }, { on := 3, ground := Ground.phase }, { on := 4, ground := Ground.phase }, { on := 5, ground := Ground.phase }, { on := 6, ground := Ground.phase }, { on := 7, ground := Ground.phase }, { on := 8, ground := Ground.phase }, { on := 9, ground := Ground.phase }, { on := 10, ground := Ground.phase }, { on := 11, ground := Ground.phase }, { on := 12, ground := Ground.phase }, { on := 13, ground := Ground.phase }, { on := 14, ground := Ground.phase }, { on := 15, ground := Ground.phase }, { on := 16, ground := Ground.phase }, { on := 17, ground := Ground.phase }, { on := 18, ground := Ground.phase }, { on := 19, ground := Ground.phase }, { on := 20, ground := Ground.phase }, { on := 21, ground := Ground.phase }, { on := 22, ground := Ground.phase }, { on := 23, ground := Ground.phase }, { on := 24, ground := Ground.phase }, { on := 25, ground := Ground.phase }, { on := 26, ground := Ground.phase }, { on := 27, ground := Ground.phase }, { on := 28, ground := Ground.phase }, { on := 29, ground := Ground.phase }, { on := 30, ground := Ground.phase }, { on := 31, ground := Ground.phase }, { on := 32, ground := Ground.phase }, { on := 33, ground := Ground.phase }, { on := 34, ground := Ground.phase }, { on := 35, ground := Ground.phase }, { on := 36, ground := Ground.phase }, { on := 37, ground := Ground.phase }, { on := 38, ground := Ground.phase }], guard := none }) (v := ?v39z2) rfl (by kernel_rfl) (by kernel_rfl) (by kernel_rfl) (fun _ _ _ h => h) (Or.inl ⟨by rfl, ?y39z2⟩) (by assumption) ?r39z2
  case y39z2 => (intro w hSw; (try dsimp only at hSw); go_simp; first | done | with_reducible rfl)
  try simp only [Act.put, List.setIfInBounds_toArray, List.set_cons_zero, List.set_cons_succ]
  refine wpAnyH_done (by kernel_rfl) ?_ _
  have K9 := hHeld.2
  clear hHeld
  go_wp2
  go_ret
  exact ⟨rfl, K9.out.b⟩
set_option maxHeartbeats 8000000 in
theorem compares21_true (b : Bool) (t : ByteArray) (c : Bool) (u : ByteArray) (w : World) (ht : t.size ≤ 1000) (hu : u.size ≤ 1000) (HS : Box (strongE (b, t) (c, u) = true)) :
    Calls Try.prog 5 #[.agg #[.bool b, .string t], .agg #[.bool c, .string u]] w fun e w' => e = .returned (.bool true) ∧ Below w.heap.size w w' := by
  have i1 : ¬ (1000 : Int) < (t.size : Int) := by omega
  have i2 : ¬ (1000 : Int) < (u.size : Int) := by omega
  have HW : Box (weakE (b, t) (c, u) = true) := box (strong_weak HS.out)
  have HY : Box (weakE (c, u) (b, t) = true) := box (by rw [weak_comm]; exact HW.out)
  have K0 := box (Two21.new (w := w) (c0 := .bool b) (c1 := .string t) (d0 := .bool c) (d1 := .string u) 23 23)
  go_enter Try.func5, Try.ntmps5
  go_wp2
  go_region_held3 (fun w' => w'.cell? ⟨w.heap.size, 0, none⟩ = some (.bool b) ∧ w'.cell? ⟨w.heap.size, 1, none⟩ = some (.string t) ∧ w'.cell? ⟨w.heap.size + 1, 0, none⟩ = some (.bool c) ∧ w'.cell? ⟨w.heap.size + 1, 1, none⟩ = some (.string u)) (first | exact K9.out.cells | exact K8.out.cells | exact K7.out.cells | exact K6.out.cells | exact K5.out.cells | exact K4.out.cells | exact K3.out.cells | exact K2.out.cells | exact K1.out.cells | exact K0.out.cells | exact (K0.out.drewN).cells) (first | (go_at_call 12; have kk := K8.out; clear kk; refine (awake21_any _).mono ?_; rintro e u9 ⟨rfl, hu⟩; have K9 := box ((K8.out).next hu); clear hu) | (go_at_call 21; have kk := K7.out; clear kk; refine (mWeakE_is (b := c) (c := b) (t := u) (u := t) HY).mono ?_; rintro e u8 ⟨rfl, hu⟩; have K8 := box ((K7.out).next hu); clear hu) | (go_at_call 21; have kk := K6.out; clear kk; refine (mWeakE_is (b := b) (c := c) (t := t) (u := u) HW).mono ?_; rintro e u7 ⟨rfl, hu⟩; have K7 := box ((K6.out).next hu); clear hu) | (go_at_call 21; have kk := K5.out; clear kk; refine (mWeakE_is (b := b) (c := c) (t := t) (u := u) HW).mono ?_; rintro e u6 ⟨rfl, hu⟩; have K6 := box ((K5.out).next hu); clear hu) | (go_at_call 19; have kk := K4.out; clear kk; refine (mStrongE_is (b := b) (c := c) (t := t) (u := u) HS).mono ?_; rintro e u5 ⟨rfl, hu⟩; have K5 := box ((K4.out).next hu); clear hu) | (go_at_call 22; have kk := K3.out; clear kk; refine (rWeakE_is (b := b) (c := c) (t := t) (u := u) HW).mono ?_; rintro e u4 ⟨rfl, hu⟩; have K4 := box ((K3.out).next hu); clear hu) | (go_at_call 21; have kk := K2.out; clear kk; refine (mWeakE_is (b := b) (c := c) (t := t) (u := u) HW).mono ?_; rintro e u3 ⟨rfl, hu⟩; have K3 := box ((K2.out).next hu); clear hu) | (go_at_call 20; have kk := K1.out; clear kk; refine (rStrongE_is (b := b) (c := c) (t := t) (u := u) HS).mono ?_; rintro e u2 ⟨rfl, hu⟩; have K2 := box ((K1.out).next hu); clear hu) | (go_at_call 19; refine (mStrongE_is (b := b) (c := c) (t := t) (u := u) HS).mono ?_; rintro e u1 ⟨rfl, hu⟩; have K1 := box ((K0.out.drewN).next hu); clear hu))
  all_goals
    go_wp2
    go_ret
    exact ⟨rfl, K9.out.b⟩
theorem compares21_walk (b : Bool) (t : ByteArray) (c : Bool) (u : ByteArray) (w : World) (T : t.size ≤ maxLen) (U : u.size ≤ maxLen) :
    Calls Try.prog 5 #[.agg #[.bool b, .string t], .agg #[.bool c, .string u]] w fun e w' => e = .returned (.bool true) ∧ Below w.heap.size w w' := by
  by_cases h1 : 1000 < t.size
  · exact compares21_long b t c u w T U (.inl h1)
  · by_cases h2 : 1000 < u.size
    · exact compares21_long b t c u w T U (.inr ⟨h1, h2⟩)
    · cases hs : strongE (b, t) (c, u) with
      | false =>
        cases hw : weakE (b, t) (c, u) with
        | false => exact compares21_ff b t c u w (by omega) (by omega) (box hs) (box hw)
        | true => exact compares21_ft b t c u w (by omega) (by omega) (box hs) (box hw)
      | true => exact compares21_true b t c u w (by omega) (by omega) (box hs)

end Go.Proofs.Ytchbhpfloinbdaa.Asc
