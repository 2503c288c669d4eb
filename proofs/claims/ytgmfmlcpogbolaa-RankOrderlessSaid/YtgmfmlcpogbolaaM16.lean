/- Merged texts: RnkLaws4. -/
import Derived.Test.YtgmfmlcpogbolaaM14
import Derived.BigQuiet
import Derived.BigRegion
import Derived.Deep.QuietTactic
import Derived.Deep.RegionHeld3
set_option linter.unusedVariables false
set_option linter.unusedSimpArgs false
set_option maxRecDepth 100000
namespace Go.Proofs.Ytgmfmlcpogbolaa.Asc
section
open Go.RowKit
theorem cellsQ_set : ∀ (L : List QP) (i : Nat) (p : QP), cellsQ (L.set i p) = ((cellsQ L).set (i * 2) (.string p.1)).set (i * 2 + 1) (.int .i64 p.2)
  | [], i, p => by simp [cellsQ]
  | x :: L, 0, p => rfl
  | x :: L, i + 1, p => by
    have e : cellsQ (x :: L) = .string x.1 :: .int .i64 x.2 :: cellsQ L := rfl
    have e2 : cellsQ ((x :: L).set (i + 1) p) = .string x.1 :: .int .i64 x.2 :: cellsQ (L.set i p) := rfl
    rw [e2, cellsQ_set L i p, e, show (i + 1) * 2 = i * 2 + 1 + 1 by omega]
    rfl
/-- the list with the preferences at i and k exchanged -/
def swapQ (L : List QP) (i k : Nat) (p r : QP) : List QP := (L.set i r).set k p
theorem swap_mem1 {L : List QP} {i k : Nat} {p r : QP} (hi : i < L.length) (hk : k < L.length) (hp : L[i] = p) (hr : L[k] = r) : ∀ x ∈ L, x ∈ swapQ L i k p r := by
  intro x hx
  obtain ⟨j, hj, rfl⟩ := List.getElem_of_mem hx
  unfold swapQ
  by_cases h1 : j = i
  · subst h1
    rw [hp]
    exact List.mem_iff_getElem.2 ⟨k, by simpa using hk, by simp⟩
  · by_cases h2 : j = k
    · subst h2
      rw [hr]
      exact List.mem_iff_getElem.2 ⟨i, by simpa using hi, by rw [List.getElem_set_ne (by omega), List.getElem_set_self]⟩
    · exact List.mem_iff_getElem.2 ⟨j, by simpa using hj, by rw [List.getElem_set_ne (by omega), List.getElem_set_ne (by omega)]⟩
theorem swap_mem2 {L : List QP} {i k : Nat} {p r : QP} (hi : i < L.length) (hk : k < L.length) (hp : L[i] = p) (hr : L[k] = r) : ∀ x ∈ swapQ L i k p r, x ∈ L := by
  intro x hx
  unfold swapQ at hx
  rcases List.mem_or_eq_of_mem_set hx with h | rfl
  · rcases List.mem_or_eq_of_mem_set h with h | rfl
    · exact h
    · rw [← hr]; exact List.getElem_mem hk
  · rw [← hp]; exact List.getElem_mem hi
theorem swap_len {L : List QP} {i k : Nat} {p r : QP} : (swapQ L i k p r).length = L.length := by unfold swapQ; simp
/-- two that match with the same specificity -/
def badQ (m : Nat → Int) (x y : Nat) : Prop := 0 ≤ m x ∧ m x = m y
def OxRel (m : Nat → Int) (n : Nat) (W : World) (x : Value) (wr : World) : Prop :=
  ∃ j : Nat, x = .int .i64 j ∧ j ≤ n ∧ (∀ x y, x < j → y < x → ¬ badQ m x y) ∧ Below W.heap.size W wr
def OyRel (m : Nat → Int) (j : Nat) (W : World) (y : Value) (wr : World) : Prop :=
  ∃ l : Nat, y = .int .i64 l ∧ l ≤ j ∧ (∀ y, y < l → ¬ badQ m j y) ∧ Below W.heap.size W wr
def K14 (W : World) (P Q : Addr) (u v : Value) (w' : World) : Prop := (w'.cell? P = some u ∧ w'.cell? Q = some v) ∧ Below W.heap.size W w'
theorem K14.next {W : World} {P Q : Addr} {u v : Value} {w' w2 : World} (h : K14 W P Q u v w') (hb : Below w'.heap.size w' w2) : K14 W P Q u v w2 :=
  ⟨⟨(hb.cell (cell_lt h.1.1)).trans h.1.1, (hb.cell (cell_lt h.1.2)).trans h.1.2⟩, h.2.trans (hb.mono h.2.size)⟩
theorem K14.drewN {W : World} {P Q : Addr} {u v : Value} {w' : World} {n : Nat} (h : K14 W P Q u v w') : K14 W P Q u v (w'.drewN n) := h.next (below_drewN _ _)
theorem rMatchO_is {k i : Int} {r v : ByteArray} {w : World} (hk : InI64 k) (hr : r.size ≤ 20000) (hv : v.size ≤ 20000) (h : Box (matchP k r.data.toList v.data.toList = i)) :
    Calls Try.prog 13 #[.int .i64 k, .string r, .string v] w fun e w' => e = .returned (.int .i64 i) ∧ Below w.heap.size w w' :=
  (rMatch13_any k r v w hk hr hv).mono fun e w' ⟨h1, h2⟩ => ⟨by rw [h1, h.out], h2⟩
theorem OwnQ.put {w : World} {B g n cap i : Nat} {L : List QP} (h : OwnQ w B (.slice (some ⟨g, 0, none⟩) n cap) L) (hn : n = L.length) (p : QP) :
    OwnQ ((w.setCell ⟨g, i * 2, none⟩ (.string p.1)).setCell ⟨g, i * 2 + 1, none⟩ (.int .i64 p.2)) B (.slice (some ⟨g, 0, none⟩) n cap) (L.set i p) := by
  subst hn
  unfold OwnQ at h ⊢
  rw [cellsQ_set, List.length_set]
  exact ((h.stored (i * 2) _).1.stored (i * 2 + 1) _).1
set_option maxHeartbeats 4000000 in
theorem order14_in (k : Int) (a : Option Addr) (cap : Nat) (L : List QP) (i t : Nat) (v : ByteArray) (w : World) (hki : InI64 k) (HL : Box (L.length ≤ maxLen)) (F0 : Box (Qs w a L)) (HK : Box (keepQ L = true)) (hl : L.length ≤ 20) (zL : Box (∀ i (hi : i < L.length), L[i].1.size ≤ 20000)) (h1 : v.size ≤ 100) (hi : i < L.length) (ht : t < L.length) :
    Calls Try.prog 6 #[.int .i64 k, .slice a L.length cap, .int .i64 i, .int .i64 t, .string v] w fun e w' => e = .returned (.bool true) ∧ Below w.heap.size w w' := by
  have j1 : ¬ (100 : Int) < (v.size : Int) := by omega
  have j2 : ¬ (i : Int) < 0 := by omega
  have j3 : ¬ (L.length : Int) ≤ (i : Int) := by omega
  have j4 : ¬ (t : Int) < 0 := by omega
  have j5 : ¬ (L.length : Int) ≤ (t : Int) := by omega
  have q1 : decide ((100 : Int) < (v.size : Int)) = false := decide_eq_false j1
  have q2 : decide ((i : Int) < 0) = false := decide_eq_false j2
  have q3 : decide (L.length ≤ i) = false := decide_eq_false (by omega)
  have q4 : decide ((t : Int) < 0) = false := decide_eq_false j4
  have q5 : decide (L.length ≤ t) = false := decide_eq_false (by omega)
  have hv : v.size ≤ 20000 := by omega
  obtain ⟨m, hm⟩ : ∃ m : Nat → Int, ∀ x (hx : x < L.length), matchP k L[x].1.data.toList v.data.toList = m x := ⟨fun x => if hx : x < L.length then matchP k L[x].1.data.toList v.data.toList else 0, fun x hx => by simp [hx]⟩
  have HM := box hm
  clear hm
  go_enter Try.func6, Try.ntmps6
  go_wp2_with fail
  refine (keepPrefs_any a cap L _ HL.out F0).mono ?_; rintro e w1 ⟨rfl, rfl⟩; rw [HK.out]
  go_wp2
  go_loopw [11, 12] (fun x _ wr => OxRel m L.length w x wr) (fun x _ _ => L.length - (intOf x).toNat)
  case atStart => exact ⟨0, rfl, Nat.zero_le _, fun x y hx => by omega, Below.refl _ _⟩
  case round =>
    obtain ⟨j, rfl, hj, hno, hbel⟩ := hrel
    have HN := box hno
    have BL := box hbel
    clear hno hbel
    by_cases hlt : j < L.length
    · have hji : (j : Int) < (L.length : Int) := by omega
      go_wp2
      go_loopw [12] (fun y wi => OyRel m j w y wi) (fun y _ => j - (intOf y).toNat)
      case atStart => exact ⟨0, rfl, Nat.zero_le _, fun y hy => by omega, BL.out⟩
      case round =>
        obtain ⟨l, rfl, hl2, hno2, hbi⟩ := hrel
        have HN2 := box hno2
        have BI := box hbi
        have F1 := box (F0.out.below hbi)
        clear hno2 hbi
        by_cases hlj : l < j
        · have hlji : (l : Int) < (j : Int) := by omega
          have hll : (l : Int) < (L.length : Int) := by omega
          obtain ⟨g, off, rfl, c0, _⟩ := F1.out j hlt
          obtain ⟨g', off', e, d0, _⟩ := F1.out l (by omega)
          cases e
          have HX := box (HM.out j hlt)
          have HY := box (HM.out l (by omega))
          have zx := zL.out j hlt
          have zy := zL.out l (by omega)
          obtain ⟨px, hpx⟩ : ∃ p, L[j].1 = p := ⟨_, rfl⟩
          obtain ⟨py, hpy⟩ : ∃ p, (L[l]'(by omega)).1 = p := ⟨_, rfl⟩
          rw [hpx] at c0 HX zx
          rw [hpy] at d0 HY zy
          clear hpx hpy
          obtain ⟨sx, hsx⟩ : ∃ s, m j = s := ⟨_, rfl⟩
          obtain ⟨sy, hsy⟩ : ∃ s, m l = s := ⟨_, rfl⟩
          rw [hsx] at HX
          rw [hsy] at HY
          have K0 : Box (K14 w ⟨g, off + j * 2, none⟩ ⟨g, off + l * 2, none⟩ (.string px) (.string py) wr) := box ⟨⟨c0, d0⟩, BI.out⟩
          by_cases h0 : 0 ≤ sx
          · by_cases he : sx = sy
            · subst he
              clear hsx hsy K0
              go_wp2
              refine wp_region_held_drew (S := (fun w' : World => (w'.cell? ⟨g, off + j * 2, none⟩ = some (.string px) ∧ w'.cell? ⟨g, off + l * 2, none⟩ = some (.string py)) ∧ Box (Below w.heap.size w w'))) (by kernel_rfl) ⟨⟨c0, d0⟩, box BI.out.drew⟩ (fun hHeld => ?_)
              refine wpAnyH_take (i := 0) (oi := { dst := some 53, op := Op.move (Operand.tmp 0), type := 3, pos := "law.go:87", after := #[], guard := none }) (v := ?v0b) rfl (by kernel_rfl) (by kernel_rfl) (by kernel_rfl) (fun _ _ _ h => h) (Or.inl ⟨by rfl, ?y0b⟩) (by assumption) ?r0b
              case y0b => (intro w hSw; (try dsimp only at hSw); go_simp; first | done | with_reducible rfl)
              try simp only [Act.put, List.setIfInBounds_toArray, List.set_cons_zero, List.set_cons_succ]
              refine wpAnyH_take (i := 1) (oi := { dst := some 54, op := Op.move (Operand.tmp 1), type := 22, pos := "law.go:87", after := #[], guard := none }) (v := ?v1b) rfl (by kernel_rfl) (by kernel_rfl) (by kernel_rfl) (fun _ _ _ h => h) (Or.inl ⟨by rfl, ?y1b⟩) (by assumption) ?r1b
              case y1b => (intro w hSw; (try dsimp only at hSw); go_simp; first | done | with_reducible rfl)
              try simp only [Act.put, List.setIfInBounds_toArray, List.set_cons_zero, List.set_cons_succ]
              refine wpAnyH_take (i := 2) (oi := { dst := some 55, op := Op.move (Operand.tmp 11), type := 3, pos := "law.go:87", after := #[], guard := none }) (v := ?v2b) rfl (by kernel_rfl) (by kernel_rfl) (by kernel_rfl) (fun _ _ _ h => h) (Or.inl ⟨by rfl, ?y2b⟩) (by assumption) ?r2b
              case y2b => (intro w hSw; (try dsimp only at hSw); go_simp; first | done | with_reducible rfl)
              try simp only [Act.put, List.setIfInBounds_toArray, List.set_cons_zero, List.set_cons_succ]
              refine wpAnyH_take (i := 3) (oi := { dst := some 56, op := Op.indexAddr 22 (Operand.tmp 54) (Operand.tmp 55), type := 0, pos := "law.go:87", after := #[{ on := 1, ground := Ground.data }, { on := 2, ground := Ground.data }], guard := none }) (v := ?v3b) rfl (by kernel_rfl) (by kernel_rfl) (by kernel_rfl) (fun _ _ _ h => h) (Or.inl ⟨by rfl, ?y3b⟩) (by assumption) ?r3b
              case y3b => (intro w hSw; (try dsimp only at hSw); go_simp; first | done | with_reducible rfl)
              try simp only [Act.put, List.setIfInBounds_toArray, List.set_cons_zero, List.set_cons_succ]
              refine wpAnyH_take (i := 4) (oi := { dst := some 57, op := Op.fieldAddr 33 (Operand.tmp 56) 0, type := 0, pos := "law.go:87", after := #[{ on := 3, ground := Ground.data }], guard := none }) (v := ?v4b) rfl (by kernel_rfl) (by kernel_rfl) (by kernel_rfl) (fun _ _ _ h => h) (Or.inl ⟨by rfl, ?y4b⟩) (by assumption) ?r4b
              case y4b => (intro w hSw; (try dsimp only at hSw); go_simp; first | done | with_reducible rfl)
              try simp only [Act.put, List.setIfInBounds_toArray, List.set_cons_zero, List.set_cons_succ]
              refine wpAnyH_take (i := 5) (oi := { dst := some 58, op := Op.load 9 (Operand.tmp 57), type := 9, pos := "law.go:87", after := #[{ on := 4, ground := Ground.data }], guard := none }) (v := ?v5b) rfl (by kernel_rfl) (by kernel_rfl) (by kernel_rfl) (fun _ _ _ h => h) (Or.inl ⟨by rfl, ?y5b⟩) (by assumption) ?r5b
              case y5b => (intro w hSw; (try dsimp only at hSw); go_simp; first | done | with_reducible rfl)
              try simp only [Act.put, List.setIfInBounds_toArray, List.set_cons_zero, List.set_cons_succ]
              refine wpAnyH_take (i := 6) (oi := { dst := some 59, op := Op.move (Operand.tmp 4), type := 9, pos := "law.go:87", after := #[], guard := none }) (v := ?v6b) rfl (by kernel_rfl) (by kernel_rfl) (by kernel_rfl) (fun _ _ _ h => h) (Or.inl ⟨by rfl, ?y6b⟩) (by assumption) ?r6b
              case y6b => (intro w hSw; (try dsimp only at hSw); go_simp; first | done | with_reducible rfl)
              try simp only [Act.put, List.setIfInBounds_toArray, List.set_cons_zero, List.set_cons_succ]
              refine wpAnyH_ready (rs := [7]) (by kernel_rfl) (by simp) ?_
              refine AllReadyH.cons (o := { dst := some 60, op := Op.call { callee := Callee.value (Operand.func 13), args := #[Operand.tmp 53, Operand.tmp 58, Operand.tmp 59], argTypes := #[3, 9, 9] }, type := 3, pos := "law.go:87", after := #[{ on := 0, ground := Ground.data }, { on := 5, ground := Ground.data }, { on := 6, ground := Ground.data }], guard := none }) rfl (fun K hK => ?_) AllReadyH.nil
              go_simp
              refine (rMatchO_is hki zx hv HX).mono ?_; rintro e w2 ⟨rfl, hb2⟩
              go_wp2_with fail
              refine hK.out _ _ ⟨⟨(hb2.cell (p := ⟨g, off + j * 2, none⟩) (cell_lt hHeld.1.1)).trans hHeld.1.1, (hb2.cell (p := ⟨g, off + l * 2, none⟩) (cell_lt hHeld.1.2)).trans hHeld.1.2⟩, box (hHeld.2.out.trans (hb2.mono hHeld.2.out.size))⟩ (fun hHeld => ?_)
              clear hK K
              try simp only [Act.put, List.setIfInBounds_toArray, List.set_cons_zero, List.set_cons_succ]
              refine wpAnyH_take (i := 8) (oi := { dst := some 61, op := Op.binOp BinOp.geq 3 (Operand.tmp 60) (Operand.const (Value.int IntKind.i64 0)) 3, type := 4, pos := "law.go:87", after := #[{ on := 7, ground := Ground.data }], guard := none }) (v := ?v8b) rfl (by kernel_rfl) (by kernel_rfl) (by kernel_rfl) (fun _ _ _ h => h) (Or.inl ⟨by rfl, ?y8b⟩) (by assumption) ?r8b
              case y8b => (intro w hSw; (try dsimp only at hSw); go_simp; first | done | with_reducible rfl)
              try simp only [Act.put, List.setIfInBounds_toArray, List.set_cons_zero, List.set_cons_succ]
              refine wpAnyH_take (i := 9) (oi := { dst := some 62, op := Op.move (Operand.tmp 61), type := 4, pos := "law.go:87", after := #[{ on := 8, ground := Ground.data }, { on := 7, ground := Ground.chain }], guard := none }) (v := ?v9b) rfl (by kernel_rfl) (by kernel_rfl) (by kernel_rfl) (fun _ _ _ h => h) (Or.inl ⟨by rfl, ?y9b⟩) (by assumption) ?r9b
              case y9b => (intro w hSw; (try dsimp only at hSw); go_simp; first | done | with_reducible rfl)
              try simp only [Act.put, List.setIfInBounds_toArray, List.set_cons_zero, List.set_cons_succ]
              refine wpAnyH_take (i := 10) (oi := { dst := some 63, op := Op.move (Operand.tmp 0), type := 3, pos := "law.go:87", after := #[{ on := 9, ground := Ground.guard }], guard := some (9, true) }) (v := ?v10b) rfl (by kernel_rfl) (by kernel_rfl) (by kernel_rfl) (fun _ _ _ h => h) (Or.inl ⟨by rfl, ?y10b⟩) (by assumption) ?r10b
              case y10b => (intro w hSw; (try dsimp only at hSw); go_simp; first | done | with_reducible rfl)
              try simp only [Act.put, List.setIfInBounds_toArray, List.set_cons_zero, List.set_cons_succ]
              refine wpAnyH_take (i := 11) (oi := { dst := some 64, op := Op.move (Operand.tmp 1), type := 22, pos := "law.go:87", after := #[{ on := 9, ground := Ground.guard }], guard := some (9, true) }) (v := ?v11b) rfl (by kernel_rfl) (by kernel_rfl) (by kernel_rfl) (fun _ _ _ h => h) (Or.inl ⟨by rfl, ?y11b⟩) (by assumption) ?r11b
              case y11b => (intro w hSw; (try dsimp only at hSw); go_simp; first | done | with_reducible rfl)
              try simp only [Act.put, List.setIfInBounds_toArray, List.set_cons_zero, List.set_cons_succ]
              refine wpAnyH_take (i := 12) (oi := { dst := some 65, op := Op.move (Operand.tmp 11), type := 3, pos := "law.go:87", after := #[{ on := 9, ground := Ground.guard }], guard := some (9, true) }) (v := ?v12b) rfl (by kernel_rfl) (by kernel_rfl) (by kernel_rfl) (fun _ _ _ h => h) (Or.inl ⟨by rfl, ?y12b⟩) (by assumption) ?r12b
              case y12b => (intro w hSw; (try dsimp only at hSw); go_simp; first | done | with_reducible rfl)
              try simp only [Act.put, List.setIfInBounds_toArray, List.set_cons_zero, List.set_cons_succ]
              refine wpAnyH_take (i := 13) (oi := { dst := some 66, op := Op.indexAddr 22 (Operand.tmp 64) (Operand.tmp 65), type := 0, pos := "law.go:87", after := #[{ on := 11, ground := Ground.data }, { on := 12, ground := Ground.data }, { on := 9, ground := Ground.guard }], guard := some (9, true) }) (v := ?v13b) rfl (by kernel_rfl) (by kernel_rfl) (by kernel_rfl) (fun _ _ _ h => h) (Or.inl ⟨by rfl, ?y13b⟩) (by assumption) ?r13b
              case y13b => (intro w hSw; (try dsimp only at hSw); go_simp; first | done | with_reducible rfl)
              try simp only [Act.put, List.setIfInBounds_toArray, List.set_cons_zero, List.set_cons_succ]
              refine wpAnyH_take (i := 14) (oi := { dst := some 67, op := Op.fieldAddr 33 (Operand.tmp 66) 0, type := 0, pos := "law.go:87", after := #[{ on := 13, ground := Ground.data }, { on := 9, ground := Ground.guard }], guard := some (9, true) }) (v := ?v14b) rfl (by kernel_rfl) (by kernel_rfl) (by kernel_rfl) (fun _ _ _ h => h) (Or.inl ⟨by rfl, ?y14b⟩) (by assumption) ?r14b
              case y14b => (intro w hSw; (try dsimp only at hSw); go_simp; first | done | with_reducible rfl)
              try simp only [Act.put, List.setIfInBounds_toArray, List.set_cons_zero, List.set_cons_succ]
              refine wpAnyH_take (i := 15) (oi := { dst := some 68, op := Op.load 9 (Operand.tmp 67), type := 9, pos := "law.go:87", after := #[{ on := 14, ground := Ground.data }, { on := 9, ground := Ground.guard }], guard := some (9, true) }) (v := ?v15b) rfl (by kernel_rfl) (by kernel_rfl) (by kernel_rfl) (fun _ _ _ h => h) (Or.inl ⟨by rfl, ?y15b⟩) (by assumption) ?r15b
              case y15b => (intro w hSw; (try dsimp only at hSw); go_simp; first | done | with_reducible rfl)
              try simp only [Act.put, List.setIfInBounds_toArray, List.set_cons_zero, List.set_cons_succ]
              refine wpAnyH_take (i := 16) (oi := { dst := some 69, op := Op.move (Operand.tmp 4), type := 9, pos := "law.go:87", after := #[{ on := 9, ground := Ground.guard }], guard := some (9, true) }) (v := ?v16b) rfl (by kernel_rfl) (by kernel_rfl) (by kernel_rfl) (fun _ _ _ h => h) (Or.inl ⟨by rfl, ?y16b⟩) (by assumption) ?r16b
              case y16b => (intro w hSw; (try dsimp only at hSw); go_simp; first | done | with_reducible rfl)
              try simp only [Act.put, List.setIfInBounds_toArray, List.set_cons_zero, List.set_cons_succ]
              refine wpAnyH_take (i := 18) (oi := { dst := some 71, op := Op.move (Operand.tmp 0), type := 3, pos := "law.go:87", after := #[{ on := 9, ground := Ground.guard }], guard := some (9, true) }) (v := ?v18b) rfl (by kernel_rfl) (by kernel_rfl) (by kernel_rfl) (fun _ _ _ h => h) (Or.inl ⟨by rfl, ?y18b⟩) (by assumption) ?r18b
              case y18b => (intro w hSw; (try dsimp only at hSw); go_simp; first | done | with_reducible rfl)
              try simp only [Act.put, List.setIfInBounds_toArray, List.set_cons_zero, List.set_cons_succ]
              refine wpAnyH_take (i := 19) (oi := { dst := some 72, op := Op.move (Operand.tmp 1), type := 22, pos := "law.go:87", after := #[{ on := 9, ground := Ground.guard }], guard := some (9, true) }) (v := ?v19b) rfl (by kernel_rfl) (by kernel_rfl) (by kernel_rfl) (fun _ _ _ h => h) (Or.inl ⟨by rfl, ?y19b⟩) (by assumption) ?r19b
              case y19b => (intro w hSw; (try dsimp only at hSw); go_simp; first | done | with_reducible rfl)
              try simp only [Act.put, List.setIfInBounds_toArray, List.set_cons_zero, List.set_cons_succ]
              refine wpAnyH_take (i := 20) (oi := { dst := some 73, op := Op.move (Operand.tmp 12), type := 3, pos := "law.go:87", after := #[{ on := 9, ground := Ground.guard }], guard := some (9, true) }) (v := ?v20b) rfl (by kernel_rfl) (by kernel_rfl) (by kernel_rfl) (fun _ _ _ h => h) (Or.inl ⟨by rfl, ?y20b⟩) (by assumption) ?r20b
              case y20b => (intro w hSw; (try dsimp only at hSw); go_simp; first | done | with_reducible rfl)
              try simp only [Act.put, List.setIfInBounds_toArray, List.set_cons_zero, List.set_cons_succ]
              refine wpAnyH_take (i := 21) (oi := { dst := some 74, op := Op.indexAddr 22 (Operand.tmp 72) (Operand.tmp 73), type := 0, pos := "law.go:87", after := #[{ on := 19, ground := Ground.data }, { on := 20, ground := Ground.data }, { on := 9, ground := Ground.guard }], guard := some (9, true) }) (v := ?v21b) rfl (by kernel_rfl) (by kernel_rfl) (by kernel_rfl) (fun _ _ _ h => h) (Or.inl ⟨by rfl, ?y21b⟩) (by assumption) ?r21b
              case y21b => (intro w hSw; (try dsimp only at hSw); go_simp; first | done | with_reducible rfl)
              try simp only [Act.put, List.setIfInBounds_toArray, List.set_cons_zero, List.set_cons_succ]
              refine wpAnyH_take (i := 22) (oi := { dst := some 75, op := Op.fieldAddr 33 (Operand.tmp 74) 0, type := 0, pos := "law.go:87", after := #[{ on := 21, ground := Ground.data }, { on := 9, ground := Ground.guard }], guard := some (9, true) }) (v := ?v22b) rfl (by kernel_rfl) (by kernel_rfl) (by kernel_rfl) (fun _ _ _ h => h) (Or.inl ⟨by rfl, ?y22b⟩) (by assumption) ?r22b
              case y22b => (intro w hSw; (try dsimp only at hSw); go_simp; first | done | with_reducible rfl)
              try simp only [Act.put, List.setIfInBounds_toArray, List.set_cons_zero, List.set_cons_succ]
              refine wpAnyH_take (i := 23) (oi := { dst := some 76, op := Op.load 9 (Operand.tmp 75), type := 9, pos := "law.go:87", after := #[{ on := 22, ground := Ground.data }, { on := 9, ground := Ground.guard }], guard := some (9, true) }) (v := ?v23b) rfl (by kernel_rfl) (by kernel_rfl) (by kernel_rfl) (fun _ _ _ h => h) (Or.inl ⟨by rfl, ?y23b⟩) (by assumption) ?r23b
              case y23b => (intro w hSw; (try dsimp only at hSw); go_simp; first | done | with_reducible rfl)
              try simp only [Act.put, List.setIfInBounds_toArray, List.set_cons_zero, List.set_cons_succ]
              refine wpAnyH_take (i := 24) (oi := { dst := some 77, op := Op.move (Operand.tmp 4), type := 9, pos := "law.go:87", after := #[{ on := 9, ground := Ground.guard }], guard := some (9, true) }) (v := ?v24b) rfl (by kernel_rfl) (by kernel_rfl) (by kernel_rfl) (fun _ _ _ h => h) (Or.inl ⟨by rfl, ?y24b⟩) (by assumption) ?r24b
              case y24b => (intro w hSw; (try dsimp only at hSw); go_simp; first | done | with_reducible rfl)
              try simp only [Act.put, List.setIfInBounds_toArray, List.set_cons_zero, List.set_cons_succ]
              refine wpAnyH_ready (rs := [17]) (by kernel_rfl) (by simp) ?_
              refine AllReadyH.cons (o := { dst := some 70, op := Op.call { callee := Callee.value (Operand.func 13), args := #[Operand.tmp 63, Operand.tmp 68, Operand.tmp 69], argTypes := #[3, 9, 9] }, type := 3, pos := "law.go:87", after := #[{ on := 10, ground := Ground.data }, { on := 15, ground := Ground.data }, { on := 16, ground := Ground.data }, { on := 9, ground := Ground.chain }, { on := 9, ground := Ground.guard }], guard := some (9, true) }) rfl (fun K hK => ?_) AllReadyH.nil
              go_simp
              refine (rMatchO_is hki zx hv HX).mono ?_; rintro e w3 ⟨rfl, hb3⟩
              go_wp2_with fail
              refine hK.out _ _ ⟨⟨(hb3.cell (p := ⟨g, off + j * 2, none⟩) (cell_lt hHeld.1.1)).trans hHeld.1.1, (hb3.cell (p := ⟨g, off + l * 2, none⟩) (cell_lt hHeld.1.2)).trans hHeld.1.2⟩, box (hHeld.2.out.trans (hb3.mono hHeld.2.out.size))⟩ (fun hHeld => ?_)
              clear hK K
              try simp only [Act.put, List.setIfInBounds_toArray, List.set_cons_zero, List.set_cons_succ]
              refine wpAnyH_ready (rs := [25]) (by kernel_rfl) (by simp) ?_
              refine AllReadyH.cons (o := { dst := some 78, op := Op.call { callee := Callee.value (Operand.func 13), args := #[Operand.tmp 71, Operand.tmp 76, Operand.tmp 77], argTypes := #[3, 9, 9] }, type := 3, pos := "law.go:87", after := #[{ on := 18, ground := Ground.data }, { on := 23, ground := Ground.data }, { on := 24, ground := Ground.data }, { on := 17, ground := Ground.chain }, { on := 9, ground := Ground.guard }], guard := some (9, true) }) rfl (fun K hK => ?_) AllReadyH.nil
              go_simp
              refine (rMatchO_is hki zy hv HY).mono ?_; rintro e w4 ⟨rfl, hb4⟩
              go_wp2_with fail
              refine hK.out _ _ ⟨⟨(hb4.cell (p := ⟨g, off + j * 2, none⟩) (cell_lt hHeld.1.1)).trans hHeld.1.1, (hb4.cell (p := ⟨g, off + l * 2, none⟩) (cell_lt hHeld.1.2)).trans hHeld.1.2⟩, box (hHeld.2.out.trans (hb4.mono hHeld.2.out.size))⟩ (fun hHeld => ?_)
              clear hK K
              try simp only [Act.put, List.setIfInBounds_toArray, List.set_cons_zero, List.set_cons_succ]
              refine wpAnyH_take (i := 26) (oi := { dst := some 79, op := Op.binOp BinOp.eql 3 (Operand.tmp 70) (Operand.tmp 78) 3, type := 4, pos := "law.go:87", after := #[{ on := 17, ground := Ground.data }, { on := 25, ground := Ground.data }, { on := 9, ground := Ground.guard }], guard := some (9, true) }) (v := ?v26b) rfl (by kernel_rfl) (by kernel_rfl) (by kernel_rfl) (fun _ _ _ h => h) (Or.inl ⟨by rfl, ?y26b⟩) (by assumption) ?r26b
              case y26b => (intro w hSw; (try dsimp only at hSw); go_simp; first | done | with_reducible rfl)
              try simp only [Act.put, List.setIfInBounds_toArray, List.set_cons_zero, List.set_cons_succ]
              refine wpAnyH_take (i := 27) (oi := { dst := some 80, op := Op.pick (Operand.tmp 62) (Operand.tmp 79) (Operand.const (Value.bool false)), type := 4, pos := "law.go:87", after := #[{ on := 9, ground := Ground.data }, { on := 26, ground := Ground.data }], guard := none }) (v := ?v27b) rfl (by kernel_rfl) (by kernel_rfl) (by kernel_rfl) (fun _ _ _ h => h) (Or.inl ⟨by rfl, ?y27b⟩) (by assumption) ?r27b
              case y27b => (intro w hSw; (try dsimp only at hSw); go_simp; first | done | with_reducible rfl)
              try simp only [Act.put, List.setIfInBounds_toArray, List.set_cons_zero, List.set_cons_succ]
              refine wpAnyH_done (by kernel_rfl) ?_ _
              all_goals
                go_wp2
                go_ret
                exact ⟨rfl, hHeld.2.out⟩
            · have e2 : (sx == sy) = false := by rw [beq_eq_false_iff_ne]; exact he
              have HN3 : Box (∀ y, y < l + 1 → ¬ badQ m j y) := box (fun y hy hb => by
                by_cases e : y = l
                · subst e; exact he (by rw [← hsx, ← hsy]; exact hb.2)
                · exact HN2.out y (by omega) hb)
              clear hsx hsy K0
              go_wp2
              refine wp_region_held_drew (S := (fun w' : World => (w'.cell? ⟨g, off + j * 2, none⟩ = some (.string px) ∧ w'.cell? ⟨g, off + l * 2, none⟩ = some (.string py)) ∧ Box (Below w.heap.size w w'))) (by kernel_rfl) ⟨⟨c0, d0⟩, box BI.out.drew⟩ (fun hHeld => ?_)
              refine wpAnyH_take (i := 0) (oi := { dst := some 53, op := Op.move (Operand.tmp 0), type := 3, pos := "law.go:87", after := #[], guard := none }) (v := ?v0c) rfl (by kernel_rfl) (by kernel_rfl) (by kernel_rfl) (fun _ _ _ h => h) (Or.inl ⟨by rfl, ?y0c⟩) (by assumption) ?r0c
              case y0c => (intro w hSw; (try dsimp only at hSw); go_simp; first | done | with_reducible rfl)
              try simp only [Act.put, List.setIfInBounds_toArray, List.set_cons_zero, List.set_cons_succ]
              refine wpAnyH_take (i := 1) (oi := { dst := some 54, op := Op.move (Operand.tmp 1), type := 22, pos := "law.go:87", after := #[], guard := none }) (v := ?v1c) rfl (by kernel_rfl) (by kernel_rfl) (by kernel_rfl) (fun _ _ _ h => h) (Or.inl ⟨by rfl, ?y1c⟩) (by assumption) ?r1c
              case y1c => (intro w hSw; (try dsimp only at hSw); go_simp; first | done | with_reducible rfl)
              try simp only [Act.put, List.setIfInBounds_toArray, List.set_cons_zero, List.set_cons_succ]
              refine wpAnyH_take (i := 2) (oi := { dst := some 55, op := Op.move (Operand.tmp 11), type := 3, pos := "law.go:87", after := #[], guard := none }) (v := ?v2c) rfl (by kernel_rfl) (by kernel_rfl) (by kernel_rfl) (fun _ _ _ h => h) (Or.inl ⟨by rfl, ?y2c⟩) (by assumption) ?r2c
              case y2c => (intro w hSw; (try dsimp only at hSw); go_simp; first | done | with_reducible rfl)
              try simp only [Act.put, List.setIfInBounds_toArray, List.set_cons_zero, List.set_cons_succ]
              refine wpAnyH_take (i := 3) (oi := { dst := some 56, op := Op.indexAddr 22 (Operand.tmp 54) (Operand.tmp 55), type := 0, pos := "law.go:87", after := #[{ on := 1, ground := Ground.data }, { on := 2, ground := Ground.data }], guard := none }) (v := ?v3c) rfl (by kernel_rfl) (by kernel_rfl) (by kernel_rfl) (fun _ _ _ h => h) (Or.inl ⟨by rfl, ?y3c⟩) (by assumption) ?r3c
              case y3c => (intro w hSw; (try dsimp only at hSw); go_simp; first | done | with_reducible rfl)
              try simp only [Act.put, List.setIfInBounds_toArray, List.set_cons_zero, List.set_cons_succ]
              refine wpAnyH_take (i := 4) (oi := { dst := some 57, op := Op.fieldAddr 33 (Operand.tmp 56) 0, type := 0, pos := "law.go:87", after := #[{ on := 3, ground := Ground.data }], guard := none }) (v := ?v4c) rfl (by kernel_rfl) (by kernel_rfl) (by kernel_rfl) (fun _ _ _ h => h) (Or.inl ⟨by rfl, ?y4c⟩) (by assumption) ?r4c
              case y4c => (intro w hSw; (try dsimp only at hSw); go_simp; first | done | with_reducible rfl)
              try simp only [Act.put, List.setIfInBounds_toArray, List.set_cons_zero, List.set_cons_succ]
              refine wpAnyH_take (i := 5) (oi := { dst := some 58, op := Op.load 9 (Operand.tmp 57), type := 9, pos := "law.go:87", after := #[{ on := 4, ground := Ground.data }], guard := none }) (v := ?v5c) rfl (by kernel_rfl) (by kernel_rfl) (by kernel_rfl) (fun _ _ _ h => h) (Or.inl ⟨by rfl, ?y5c⟩) (by assumption) ?r5c
              case y5c => (intro w hSw; (try dsimp only at hSw); go_simp; first | done | with_reducible rfl)
              try simp only [Act.put, List.setIfInBounds_toArray, List.set_cons_zero, List.set_cons_succ]
              refine wpAnyH_take (i := 6) (oi := { dst := some 59, op := Op.move (Operand.tmp 4), type := 9, pos := "law.go:87", after := #[], guard := none }) (v := ?v6c) rfl (by kernel_rfl) (by kernel_rfl) (by kernel_rfl) (fun _ _ _ h => h) (Or.inl ⟨by rfl, ?y6c⟩) (by assumption) ?r6c
              case y6c => (intro w hSw; (try dsimp only at hSw); go_simp; first | done | with_reducible rfl)
              try simp only [Act.put, List.setIfInBounds_toArray, List.set_cons_zero, List.set_cons_succ]
              refine wpAnyH_ready (rs := [7]) (by kernel_rfl) (by simp) ?_
              refine AllReadyH.cons (o := { dst := some 60, op := Op.call { callee := Callee.value (Operand.func 13), args := #[Operand.tmp 53, Operand.tmp 58, Operand.tmp 59], argTypes := #[3, 9, 9] }, type := 3, pos := "law.go:87", after := #[{ on := 0, ground := Ground.data }, { on := 5, ground := Ground.data }, { on := 6, ground := Ground.data }], guard := none }) rfl (fun K hK => ?_) AllReadyH.nil
              go_simp
              refine (rMatchO_is hki zx hv HX).mono ?_; rintro e w2 ⟨rfl, hb2⟩
              go_wp2_with fail
              refine hK.out _ _ ⟨⟨(hb2.cell (p := ⟨g, off + j * 2, none⟩) (cell_lt hHeld.1.1)).trans hHeld.1.1, (hb2.cell (p := ⟨g, off + l * 2, none⟩) (cell_lt hHeld.1.2)).trans hHeld.1.2⟩, box (hHeld.2.out.trans (hb2.mono hHeld.2.out.size))⟩ (fun hHeld => ?_)
              clear hK K
              try simp only [Act.put, List.setIfInBounds_toArray, List.set_cons_zero, List.set_cons_succ]
              refine wpAnyH_take (i := 8) (oi := { dst := some 61, op := Op.binOp BinOp.geq 3 (Operand.tmp 60) (Operand.const (Value.int IntKind.i64 0)) 3, type := 4, pos := "law.go:87", after := #[{ on := 7, ground := Ground.data }], guard := none }) (v := ?v8c) rfl (by kernel_rfl) (by kernel_rfl) (by kernel_rfl) (fun _ _ _ h => h) (Or.inl ⟨by rfl, ?y8c⟩) (by assumption) ?r8c
              case y8c => (intro w hSw; (try dsimp only at hSw); go_simp; first | done | with_reducible rfl)
              try simp only [Act.put, List.setIfInBounds_toArray, List.set_cons_zero, List.set_cons_succ]
              refine wpAnyH_take (i := 9) (oi := { dst := some 62, op := Op.move (Operand.tmp 61), type := 4, pos := "law.go:87", after := #[{ on := 8, ground := Ground.data }, { on := 7, ground := Ground.chain }], guard := none }) (v := ?v9c) rfl (by kernel_rfl) (by kernel_rfl) (by kernel_rfl) (fun _ _ _ h => h) (Or.inl ⟨by rfl, ?y9c⟩) (by assumption) ?r9c
              case y9c => (intro w hSw; (try dsimp only at hSw); go_simp; first | done | with_reducible rfl)
              try simp only [Act.put, List.setIfInBounds_toArray, List.set_cons_zero, List.set_cons_succ]
              refine wpAnyH_take (i := 10) (oi := { dst := some 63, op := Op.move (Operand.tmp 0), type := 3, pos := "law.go:87", after := #[{ on := 9, ground := Ground.guard }], guard := some (9, true) }) (v := ?v10c) rfl (by kernel_rfl) (by kernel_rfl) (by kernel_rfl) (fun _ _ _ h => h) (Or.inl ⟨by rfl, ?y10c⟩) (by assumption) ?r10c
              case y10c => (intro w hSw; (try dsimp only at hSw); go_simp; first | done | with_reducible rfl)
              try simp only [Act.put, List.setIfInBounds_toArray, List.set_cons_zero, List.set_cons_succ]
              refine wpAnyH_take (i := 11) (oi := { dst := some 64, op := Op.move (Operand.tmp 1), type := 22, pos := "law.go:87", after := #[{ on := 9, ground := Ground.guard }], guard := some (9, true) }) (v := ?v11c) rfl (by kernel_rfl) (by kernel_rfl) (by kernel_rfl) (fun _ _ _ h => h) (Or.inl ⟨by rfl, ?y11c⟩) (by assumption) ?r11c
              case y11c => (intro w hSw; (try dsimp only at hSw); go_simp; first | done | with_reducible rfl)
              try simp only [Act.put, List.setIfInBounds_toArray, List.set_cons_zero, List.set_cons_succ]
              refine wpAnyH_take (i := 12) (oi := { dst := some 65, op := Op.move (Operand.tmp 11), type := 3, pos := "law.go:87", after := #[{ on := 9, ground := Ground.guard }], guard := some (9, true) }) (v := ?v12c) rfl (by kernel_rfl) (by kernel_rfl) (by kernel_rfl) (fun _ _ _ h => h) (Or.inl ⟨by rfl, ?y12c⟩) (by assumption) ?r12c
              case y12c => (intro w hSw; (try dsimp only at hSw); go_simp; first | done | with_reducible rfl)
              try simp only [Act.put, List.setIfInBounds_toArray, List.set_cons_zero, List.set_cons_succ]
              refine wpAnyH_take (i := 13) (oi := { dst := some 66, op := Op.indexAddr 22 (Operand.tmp 64) (Operand.tmp 65), type := 0, pos := "law.go:87", after := #[{ on := 11, ground := Ground.data }, { on := 12, ground := Ground.data }, { on := 9, ground := Ground.guard }], guard := some (9, true) }) (v := ?v13c) rfl (by kernel_rfl) (by kernel_rfl) (by kernel_rfl) (fun _ _ _ h => h) (Or.inl ⟨by rfl, ?y13c⟩) (by assumption) ?r13c
              case y13c => (intro w hSw; (try dsimp only at hSw); go_simp; first | done | with_reducible rfl)
              try simp only [Act.put, List.setIfInBounds_toArray, List.set_cons_zero, List.set_cons_succ]
              refine wpAnyH_take (i := 14) (oi := { dst := some 67, op := Op.fieldAddr 33 (Operand.tmp 66) 0, type := 0, pos := "law.go:87", after := #[{ on := 13, ground := Ground.data }, { on := 9, ground := Ground.guard }], guard := some (9, true) }) (v := ?v14c) rfl (by kernel_rfl) (by kernel_rfl) (by kernel_rfl) (fun _ _ _ h => h) (Or.inl ⟨by rfl, ?y14c⟩) (by assumption) ?r14c
              case y14c => (intro w hSw; (try dsimp only at hSw); go_simp; first | done | with_reducible rfl)
              try simp only [Act.put, List.setIfInBounds_toArray, List.set_cons_zero, List.set_cons_succ]
              refine wpAnyH_take (i := 15) (oi := { dst := some 68, op := Op.load 9 (Operand.tmp 67), type := 9, pos := "law.go:87", after := #[{ on := 14, ground := Ground.data }, { on := 9, ground := Ground.guard }], guard := some (9, true) }) (v := ?v15c) rfl (by kernel_rfl) (by kernel_rfl) (by kernel_rfl) (fun _ _ _ h => h) (Or.inl ⟨by rfl, ?y15c⟩) (by assumption) ?r15c
              case y15c => (intro w hSw; (try dsimp only at hSw); go_simp; first | done | with_reducible rfl)
              try simp only [Act.put, List.setIfInBounds_toArray, List.set_cons_zero, List.set_cons_succ]
              refine wpAnyH_take (i := 16) (oi := { dst := some 69, op := Op.move (Operand.tmp 4), type := 9, pos := "law.go:87", after := #[{ on := 9, ground := Ground.guard }], guard := some (9, true) }) (v := ?v16c) rfl (by kernel_rfl) (by kernel_rfl) (by kernel_rfl) (fun _ _ _ h => h) (Or.inl ⟨by rfl, ?y16c⟩) (by assumption) ?r16c
              case y16c => (intro w hSw; (try dsimp only at hSw); go_simp; first | done | with_reducible rfl)
              try simp only [Act.put, List.setIfInBounds_toArray, List.set_cons_zero, List.set_cons_succ]
              refine wpAnyH_take (i := 18) (oi := { dst := some 71, op := Op.move (Operand.tmp 0), type := 3, pos := "law.go:87", after := #[{ on := 9, ground := Ground.guard }], guard := some (9, true) }) (v := ?v18c) rfl (by kernel_rfl) (by kernel_rfl) (by kernel_rfl) (fun _ _ _ h => h) (Or.inl ⟨by rfl, ?y18c⟩) (by assumption) ?r18c
              case y18c => (intro w hSw; (try dsimp only at hSw); go_simp; first | done | with_reducible rfl)
              try simp only [Act.put, List.setIfInBounds_toArray, List.set_cons_zero, List.set_cons_succ]
              refine wpAnyH_take (i := 19) (oi := { dst := some 72, op := Op.move (Operand.tmp 1), type := 22, pos := "law.go:87", after := #[{ on := 9, ground := Ground.guard }], guard := some (9, true) }) (v := ?v19c) rfl (by kernel_rfl) (by kernel_rfl) (by kernel_rfl) (fun _ _ _ h => h) (Or.inl ⟨by rfl, ?y19c⟩) (by assumption) ?r19c
              case y19c => (intro w hSw; (try dsimp only at hSw); go_simp; first | done | with_reducible rfl)
              try simp only [Act.put, List.setIfInBounds_toArray, List.set_cons_zero, List.set_cons_succ]
              refine wpAnyH_take (i := 20) (oi := { dst := some 73, op := Op.move (Operand.tmp 12), type := 3, pos := "law.go:87", after := #[{ on := 9, ground := Ground.guard }], guard := some (9, true) }) (v := ?v20c) rfl (by kernel_rfl) (by kernel_rfl) (by kernel_rfl) (fun _ _ _ h => h) (Or.inl ⟨by rfl, ?y20c⟩) (by assumption) ?r20c
              case y20c => (intro w hSw; (try dsimp only at hSw); go_simp; first | done | with_reducible rfl)
              try simp only [Act.put, List.setIfInBounds_toArray, List.set_cons_zero, List.set_cons_succ]
              refine wpAnyH_take (i := 21) (oi := { dst := some 74, op := Op.indexAddr 22 (Operand.tmp 72) (Operand.tmp 73), type := 0, pos := "law.go:87", after := #[{ on := 19, ground := Ground.data }, { on := 20, ground := Ground.data }, { on := 9, ground := Ground.guard }], guard := some (9, true) }) (v := ?v21c) rfl (by kernel_rfl) (by kernel_rfl) (by kernel_rfl) (fun _ _ _ h => h) (Or.inl ⟨by rfl, ?y21c⟩) (by assumption) ?r21c
              case y21c => (intro w hSw; (try dsimp only at hSw); go_simp; first | done | with_reducible rfl)
              try simp only [Act.put, List.setIfInBounds_toArray, List.set_cons_zero, List.set_cons_succ]
              refine wpAnyH_take (i := 22) (oi := { dst := some 75, op := Op.fieldAddr 33 (Operand.tmp 74) 0, type := 0, pos := "law.go:87", after := #[{ on := 21, ground := Ground.data }, { on := 9, ground := Ground.guard }], guard := some (9, true) }) (v := ?v22c) rfl (by kernel_rfl) (by kernel_rfl) (by kernel_rfl) (fun _ _ _ h => h) (Or.inl ⟨by rfl, ?y22c⟩) (by assumption) ?r22c
              case y22c => (intro w hSw; (try dsimp only at hSw); go_simp; first | done | with_reducible rfl)
              try simp only [Act.put, List.setIfInBounds_toArray, List.set_cons_zero, List.set_cons_succ]
              refine wpAnyH_take (i := 23) (oi := { dst := some 76, op := Op.load 9 (Operand.tmp 75), type := 9, pos := "law.go:87", after := #[{ on := 22, ground := Ground.data }, { on := 9, ground := Ground.guard }], guard := some (9, true) }) (v := ?v23c) rfl (by kernel_rfl) (by kernel_rfl) (by kernel_rfl) (fun _ _ _ h => h) (Or.inl ⟨by rfl, ?y23c⟩) (by assumption) ?r23c
              case y23c => (intro w hSw; (try dsimp only at hSw); go_simp; first | done | with_reducible rfl)
              try simp only [Act.put, List.setIfInBounds_toArray, List.set_cons_zero, List.set_cons_succ]
              refine wpAnyH_take (i := 24) (oi := { dst := some 77, op := Op.move (Operand.tmp 4), type := 9, pos := "law.go:87", after := #[{ on := 9, ground := Ground.guard }], guard := some (9, true) }) (v := ?v24c) rfl (by kernel_rfl) (by kernel_rfl) (by kernel_rfl) (fun _ _ _ h => h) (Or.inl ⟨by rfl, ?y24c⟩) (by assumption) ?r24c
              case y24c => (intro w hSw; (try dsimp only at hSw); go_simp; first | done | with_reducible rfl)
              try simp only [Act.put, List.setIfInBounds_toArray, List.set_cons_zero, List.set_cons_succ]
              refine wpAnyH_ready (rs := [17]) (by kernel_rfl) (by simp) ?_
              refine AllReadyH.cons (o := { dst := some 70, op := Op.call { callee := Callee.value (Operand.func 13), args := #[Operand.tmp 63, Operand.tmp 68, Operand.tmp 69], argTypes := #[3, 9, 9] }, type := 3, pos := "law.go:87", after := #[{ on := 10, ground := Ground.data }, { on := 15, ground := Ground.data }, { on := 16, ground := Ground.data }, { on := 9, ground := Ground.chain }, { on := 9, ground := Ground.guard }], guard := some (9, true) }) rfl (fun K hK => ?_) AllReadyH.nil
              go_simp
              refine (rMatchO_is hki zx hv HX).mono ?_; rintro e w3 ⟨rfl, hb3⟩
              go_wp2_with fail
              refine hK.out _ _ ⟨⟨(hb3.cell (p := ⟨g, off + j * 2, none⟩) (cell_lt hHeld.1.1)).trans hHeld.1.1, (hb3.cell (p := ⟨g, off + l * 2, none⟩) (cell_lt hHeld.1.2)).trans hHeld.1.2⟩, box (hHeld.2.out.trans (hb3.mono hHeld.2.out.size))⟩ (fun hHeld => ?_)
              clear hK K
              try simp only [Act.put, List.setIfInBounds_toArray, List.set_cons_zero, List.set_cons_succ]
              refine wpAnyH_ready (rs := [25]) (by kernel_rfl) (by simp) ?_
              refine AllReadyH.cons (o := { dst := some 78, op := Op.call { callee := Callee.value (Operand.func 13), args := #[Operand.tmp 71, Operand.tmp 76, Operand.tmp 77], argTypes := #[3, 9, 9] }, type := 3, pos := "law.go:87", after := #[{ on := 18, ground := Ground.data }, { on := 23, ground := Ground.data }, { on := 24, ground := Ground.data }, { on := 17, ground := Ground.chain }, { on := 9, ground := Ground.guard }], guard := some (9, true) }) rfl (fun K hK => ?_) AllReadyH.nil
              go_simp
              refine (rMatchO_is hki zy hv HY).mono ?_; rintro e w4 ⟨rfl, hb4⟩
              go_wp2_with fail
              refine hK.out _ _ ⟨⟨(hb4.cell (p := ⟨g, off + j * 2, none⟩) (cell_lt hHeld.1.1)).trans hHeld.1.1, (hb4.cell (p := ⟨g, off + l * 2, none⟩) (cell_lt hHeld.1.2)).trans hHeld.1.2⟩, box (hHeld.2.out.trans (hb4.mono hHeld.2.out.size))⟩ (fun hHeld => ?_)
              clear hK K
              try simp only [Act.put, List.setIfInBounds_toArray, List.set_cons_zero, List.set_cons_succ]
              refine wpAnyH_take (i := 26) (oi := { dst := some 79, op := Op.binOp BinOp.eql 3 (Operand.tmp 70) (Operand.tmp 78) 3, type := 4, pos := "law.go:87", after := #[{ on := 17, ground := Ground.data }, { on := 25, ground := Ground.data }, { on := 9, ground := Ground.guard }], guard := some (9, true) }) (v := ?v26c) rfl (by kernel_rfl) (by kernel_rfl) (by kernel_rfl) (fun _ _ _ h => h) (Or.inl ⟨by rfl, ?y26c⟩) (by assumption) ?r26c
              case y26c => (intro w hSw; (try dsimp only at hSw); go_simp; first | done | with_reducible rfl)
              try simp only [Act.put, List.setIfInBounds_toArray, List.set_cons_zero, List.set_cons_succ]
              refine wpAnyH_take (i := 27) (oi := { dst := some 80, op := Op.pick (Operand.tmp 62) (Operand.tmp 79) (Operand.const (Value.bool false)), type := 4, pos := "law.go:87", after := #[{ on := 9, ground := Ground.data }, { on := 26, ground := Ground.data }], guard := none }) (v := ?v27c) rfl (by kernel_rfl) (by kernel_rfl) (by kernel_rfl) (fun _ _ _ h => h) (Or.inl ⟨by rfl, ?y27c⟩) (by assumption) ?r27c
              case y27c => (intro w hSw; (try dsimp only at hSw); go_simp; first | done | with_reducible rfl)
              try simp only [Act.put, List.setIfInBounds_toArray, List.set_cons_zero, List.set_cons_succ]
              refine wpAnyH_done (by kernel_rfl) ?_ _
              all_goals
                go_wp2
                go_roundw
                case rel => exact ⟨l + 1, by go_num, by omega, HN3.out, hHeld.2.out⟩
                case measure => simp [intOf]; omega
          · have hd : decide (0 ≤ sx) = false := decide_eq_false h0
            have HN3 : Box (∀ y, y < l + 1 → ¬ badQ m j y) := box (fun y hy hb => h0 (by rw [← hsx]; exact hb.1))
            clear h0 hsx hsy K0
            go_wp2
            refine wp_region_held_drew (S := (fun w' : World => (w'.cell? ⟨g, off + j * 2, none⟩ = some (.string px) ∧ w'.cell? ⟨g, off + l * 2, none⟩ = some (.string py)) ∧ Box (Below w.heap.size w w'))) (by kernel_rfl) ⟨⟨c0, d0⟩, box BI.out.drew⟩ (fun hHeld => ?_)
            refine wpAnyH_take (i := 0) (oi := { dst := some 53, op := Op.move (Operand.tmp 0), type := 3, pos := "law.go:87", after := #[], guard := none }) (v := ?v0d) rfl (by kernel_rfl) (by kernel_rfl) (by kernel_rfl) (fun _ _ _ h => h) (Or.inl ⟨by rfl, ?y0d⟩) (by assumption) ?r0d
            case y0d => (intro w hSw; (try dsimp only at hSw); go_simp; first | done | with_reducible rfl)
            try simp only [Act.put, List.setIfInBounds_toArray, List.set_cons_zero, List.set_cons_succ]
            refine wpAnyH_take (i := 1) (oi := { dst := some 54, op := Op.move (Operand.tmp 1), type := 22, pos := "law.go:87", after := #[], guard := none }) (v := ?v1d) rfl (by kernel_rfl) (by kernel_rfl) (by kernel_rfl) (fun _ _ _ h => h) (Or.inl ⟨by rfl, ?y1d⟩) (by assumption) ?r1d
            case y1d => (intro w hSw; (try dsimp only at hSw); go_simp; first | done | with_reducible rfl)
            try simp only [Act.put, List.setIfInBounds_toArray, List.set_cons_zero, List.set_cons_succ]
            refine wpAnyH_take (i := 2) (oi := { dst := some 55, op := Op.move (Operand.tmp 11), type := 3, pos := "law.go:87", after := #[], guard := none }) (v := ?v2d) rfl (by kernel_rfl) (by kernel_rfl) (by kernel_rfl) (fun _ _ _ h => h) (Or.inl ⟨by rfl, ?y2d⟩) (by assumption) ?r2d
            case y2d => (intro w hSw; (try dsimp only at hSw); go_simp; first | done | with_reducible rfl)
            try simp only [Act.put, List.setIfInBounds_toArray, List.set_cons_zero, List.set_cons_succ]
            refine wpAnyH_take (i := 3) (oi := { dst := some 56, op := Op.indexAddr 22 (Operand.tmp 54) (Operand.tmp 55), type := 0, pos := "law.go:87", after := #[{ on := 1, ground := Ground.data }, { on := 2, ground := Ground.data }], guard := none }) (v := ?v3d) rfl (by kernel_rfl) (by kernel_rfl) (by kernel_rfl) (fun _ _ _ h => h) (Or.inl ⟨by rfl, ?y3d⟩) (by assumption) ?r3d
            case y3d => (intro w hSw; (try dsimp only at hSw); go_simp; first | done | with_reducible rfl)
            try simp only [Act.put, List.setIfInBounds_toArray, List.set_cons_zero, List.set_cons_succ]
            refine wpAnyH_take (i := 4) (oi := { dst := some 57, op := Op.fieldAddr 33 (Operand.tmp 56) 0, type := 0, pos := "law.go:87", after := #[{ on := 3, ground := Ground.data }], guard := none }) (v := ?v4d) rfl (by kernel_rfl) (by kernel_rfl) (by kernel_rfl) (fun _ _ _ h => h) (Or.inl ⟨by rfl, ?y4d⟩) (by assumption) ?r4d
            case y4d => (intro w hSw; (try dsimp only at hSw); go_simp; first | done | with_reducible rfl)
            try simp only [Act.put, List.setIfInBounds_toArray, List.set_cons_zero, List.set_cons_succ]
            refine wpAnyH_take (i := 5) (oi := { dst := some 58, op := Op.load 9 (Operand.tmp 57), type := 9, pos := "law.go:87", after := #[{ on := 4, ground := Ground.data }], guard := none }) (v := ?v5d) rfl (by kernel_rfl) (by kernel_rfl) (by kernel_rfl) (fun _ _ _ h => h) (Or.inl ⟨by rfl, ?y5d⟩) (by assumption) ?r5d
            case y5d => (intro w hSw; (try dsimp only at hSw); go_simp; first | done | with_reducible rfl)
            try simp only [Act.put, List.setIfInBounds_toArray, List.set_cons_zero, List.set_cons_succ]
            refine wpAnyH_take (i := 6) (oi := { dst := some 59, op := Op.move (Operand.tmp 4), type := 9, pos := "law.go:87", after := #[], guard := none }) (v := ?v6d) rfl (by kernel_rfl) (by kernel_rfl) (by kernel_rfl) (fun _ _ _ h => h) (Or.inl ⟨by rfl, ?y6d⟩) (by assumption) ?r6d
            case y6d => (intro w hSw; (try dsimp only at hSw); go_simp; first | done | with_reducible rfl)
            try simp only [Act.put, List.setIfInBounds_toArray, List.set_cons_zero, List.set_cons_succ]
            refine wpAnyH_ready (rs := [7]) (by kernel_rfl) (by simp) ?_
            refine AllReadyH.cons (o := { dst := some 60, op := Op.call { callee := Callee.value (Operand.func 13), args := #[Operand.tmp 53, Operand.tmp 58, Operand.tmp 59], argTypes := #[3, 9, 9] }, type := 3, pos := "law.go:87", after := #[{ on := 0, ground := Ground.data }, { on := 5, ground := Ground.data }, { on := 6, ground := Ground.data }], guard := none }) rfl (fun K hK => ?_) AllReadyH.nil
            go_simp
            refine (rMatchO_is hki zx hv HX).mono ?_; rintro e w2 ⟨rfl, hb2⟩
            go_wp2_with fail
            refine hK.out _ _ ⟨⟨(hb2.cell (p := ⟨g, off + j * 2, none⟩) (cell_lt hHeld.1.1)).trans hHeld.1.1, (hb2.cell (p := ⟨g, off + l * 2, none⟩) (cell_lt hHeld.1.2)).trans hHeld.1.2⟩, box (hHeld.2.out.trans (hb2.mono hHeld.2.out.size))⟩ (fun hHeld => ?_)
            clear hK K
            try simp only [Act.put, List.setIfInBounds_toArray, List.set_cons_zero, List.set_cons_succ]
            refine wpAnyH_take (i := 8) (oi := { dst := some 61, op := Op.binOp BinOp.geq 3 (Operand.tmp 60) (Operand.const (Value.int IntKind.i64 0)) 3, type := 4, pos := "law.go:87", after := #[{ on := 7, ground := Ground.data }], guard := none }) (v := ?v8d) rfl (by kernel_rfl) (by kernel_rfl) (by kernel_rfl) (fun _ _ _ h => h) (Or.inl ⟨by rfl, ?y8d⟩) (by assumption) ?r8d
            case y8d => (intro w hSw; (try dsimp only at hSw); go_simp; first | done | with_reducible rfl)
            try simp only [Act.put, List.setIfInBounds_toArray, List.set_cons_zero, List.set_cons_succ]
            refine wpAnyH_take (i := 9) (oi := { dst := some 62, op := Op.move (Operand.tmp 61), type := 4, pos := "law.go:87", after := #[{ on := 8, ground := Ground.data }, { on := 7, ground := Ground.chain }], guard := none }) (v := ?v9d) rfl (by kernel_rfl) (by kernel_rfl) (by kernel_rfl) (fun _ _ _ h => h) (Or.inl ⟨by rfl, ?y9d⟩) (by assumption) ?r9d
            case y9d => (intro w hSw; (try dsimp only at hSw); go_simp; first | done | with_reducible rfl)
            try simp only [Act.put, List.setIfInBounds_toArray, List.set_cons_zero, List.set_cons_succ]
            refine wpAnyH_take (i := 10) (oi := { dst := some 63, op := Op.move (Operand.tmp 0), type := 3, pos := "law.go:87", after := #[{ on := 9, ground := Ground.guard }], guard := some (9, true) }) (v := undef) rfl (by kernel_rfl) (by kernel_rfl) (by kernel_rfl) (fun _ _ _ h => h) (Or.inr ⟨by rfl, rfl⟩) (by assumption) ?_
            try simp only [Act.put, List.setIfInBounds_toArray, List.set_cons_zero, List.set_cons_succ]
            refine wpAnyH_take (i := 11) (oi := { dst := some 64, op := Op.move (Operand.tmp 1), type := 22, pos := "law.go:87", after := #[{ on := 9, ground := Ground.guard }], guard := some (9, true) }) (v := undef) rfl (by kernel_rfl) (by kernel_rfl) (by kernel_rfl) (fun _ _ _ h => h) (Or.inr ⟨by rfl, rfl⟩) (by assumption) ?_
            try simp only [Act.put, List.setIfInBounds_toArray, List.set_cons_zero, List.set_cons_succ]
            refine wpAnyH_take (i := 12) (oi := { dst := some 65, op := Op.move (Operand.tmp 11), type := 3, pos := "law.go:87", after := #[{ on := 9, ground := Ground.guard }], guard := some (9, true) }) (v := undef) rfl (by kernel_rfl) (by kernel_rfl) (by kernel_rfl) (fun _ _ _ h => h) (Or.inr ⟨by rfl, rfl⟩) (by assumption) ?_
            try simp only [Act.put, List.setIfInBounds_toArray, List.set_cons_zero, List.set_cons_succ]
            refine wpAnyH_take (i := 13) (oi := { dst := some 66, op := Op.indexAddr 22 (Operand.tmp 64) (Operand.tmp 65), type := 0, pos := "law.go:87", after := #[{ on := 11, ground := Ground.data }, { on := 12, ground := Ground.data }, { on := 9, ground := Ground.guard }], guard := some (9, true) }) (v := undef) rfl (by kernel_rfl) (by kernel_rfl) (by kernel_rfl) (fun _ _ _ h => h) (Or.inr ⟨by rfl, rfl⟩) (by assumption) ?_
            try simp only [Act.put, List.setIfInBounds_toArray, List.set_cons_zero, List.set_cons_succ]
            refine wpAnyH_take (i := 14) (oi := { dst := some 67, op := Op.fieldAddr 33 (Operand.tmp 66) 0, type := 0, pos := "law.go:87", after := #[{ on := 13, ground := Ground.data }, { on := 9, ground := Ground.guard }], guard := some (9, true) }) (v := undef) rfl (by kernel_rfl) (by kernel_rfl) (by kernel_rfl) (fun _ _ _ h => h) (Or.inr ⟨by rfl, rfl⟩) (by assumption) ?_
            try simp only [Act.put, List.setIfInBounds_toArray, List.set_cons_zero, List.set_cons_succ]
            refine wpAnyH_take (i := 15) (oi := { dst := some 68, op := Op.load 9 (Operand.tmp 67), type := 9, pos := "law.go:87", after := #[{ on := 14, ground := Ground.data }, { on := 9, ground := Ground.guard }], guard := some (9, true) }) (v := undef) rfl (by kernel_rfl) (by kernel_rfl) (by kernel_rfl) (fun _ _ _ h => h) (Or.inr ⟨by rfl, rfl⟩) (by assumption) ?_
            try simp only [Act.put, List.setIfInBounds_toArray, List.set_cons_zero, List.set_cons_succ]
            refine wpAnyH_take (i := 16) (oi := { dst := some 69, op := Op.move (Operand.tmp 4), type := 9, pos := "law.go:87", after := #[{ on := 9, ground := Ground.guard }], guard := some (9, true) }) (v := undef) rfl (by kernel_rfl) (by kernel_rfl) (by kernel_rfl) (fun _ _ _ h => h) (Or.inr ⟨by rfl, rfl⟩) (by assumption) ?_
            try simp only [Act.put, List.setIfInBounds_toArray, List.set_cons_zero, List.set_cons_succ]
            refine wpAnyH_take (i := 17) (oi := { dst := some 70, op := Op.call { callee := Callee.value (Operand.func 13), args := #[Operand.tmp 63, Operand.tmp 68, Operand.tmp 69], argTypes := #[3, 9, 9] }, type := 3, pos := "law.go:87", after := #[{ on := 10, ground := Ground.data }, { on := 15, ground := Ground.data }, { on := 16, ground := Ground.data }, { on := 9, ground := Ground.chain }, { on := 9, ground := Ground.guard }], guard := some (9, true) }) (v := undef) rfl (by kernel_rfl) (by kernel_rfl) (by kernel_rfl) (fun _ _ _ h => h) (Or.inr ⟨by rfl, rfl⟩) (by assumption) ?_
            try simp only [Act.put, List.setIfInBounds_toArray, List.set_cons_zero, List.set_cons_succ]
            refine wpAnyH_take (i := 18) (oi := { dst := some 71, op := Op.move (Operand.tmp 0), type := 3, pos := "law.go:87", after := #[{ on := 9, ground := Ground.guard }], guard := some (9, true) }) (v := undef) rfl (by kernel_rfl) (by kernel_rfl) (by kernel_rfl) (fun _ _ _ h => h) (Or.inr ⟨by rfl, rfl⟩) (by assumption) ?_
            try simp only [Act.put, List.setIfInBounds_toArray, List.set_cons_zero, List.set_cons_succ]
            refine wpAnyH_take (i := 19) (oi := { dst := some 72, op := Op.move (Operand.tmp 1), type := 22, pos := "law.go:87", after := #[{ on := 9, ground := Ground.guard }], guard := some (9, true) }) (v := undef) rfl (by kernel_rfl) (by kernel_rfl) (by kernel_rfl) (fun _ _ _ h => h) (Or.inr ⟨by rfl, rfl⟩) (by assumption) ?_
            try simp only [Act.put, List.setIfInBounds_toArray, List.set_cons_zero, List.set_cons_succ]
            refine wpAnyH_take (i := 20) (oi := { dst := some 73, op := Op.move (Operand.tmp 12), type := 3, pos := "law.go:87", after := #[{ on := 9, ground := Ground.guard }], guard := some (9, true) }) (v := undef) rfl (by kernel_rfl) (by kernel_rfl) (by kernel_rfl) (fun _ _ _ h => h) (Or.inr ⟨by rfl, rfl⟩) (by assumption) ?_
            try simp only [Act.put, List.setIfInBounds_toArray, List.set_cons_zero, List.set_cons_succ]
            refine wpAnyH_take (i := 21) (oi := { dst := some 74, op := Op.indexAddr 22 (Operand.tmp 72) (Operand.tmp 73), type := 0, pos := "law.go:87", after := #[{ on := 19, ground := Ground.data }, { on := 20, ground := Ground.data }, { on := 9, ground := Ground.guard }], guard := some (9, true) }) (v := undef) rfl (by kernel_rfl) (by kernel_rfl) (by kernel_rfl) (fun _ _ _ h => h) (Or.inr ⟨by rfl, rfl⟩) (by assumption) ?_
            try simp only [Act.put, List.setIfInBounds_toArray, List.set_cons_zero, List.set_cons_succ]
            refine wpAnyH_take (i := 22) (oi := { dst := some 75, op := Op.fieldAddr 33 (Operand.tmp 74) 0, type := 0, pos := "law.go:87", after := #[{ on := 21, ground := Ground.data }, { on := 9, ground := Ground.guard }], guard := some (9, true) }) (v := undef) rfl (by kernel_rfl) (by kernel_rfl) (by kernel_rfl) (fun _ _ _ h => h) (Or.inr ⟨by rfl, rfl⟩) (by assumption) ?_
            try simp only [Act.put, List.setIfInBounds_toArray, List.set_cons_zero, List.set_cons_succ]
            refine wpAnyH_take (i := 23) (oi := { dst := some 76, op := Op.load 9 (Operand.tmp 75), type := 9, pos := "law.go:87", after := #[{ on := 22, ground := Ground.data }, { on := 9, ground := Ground.guard }], guard := some (9, true) }) (v := undef) rfl (by kernel_rfl) (by kernel_rfl) (by kernel_rfl) (fun _ _ _ h => h) (Or.inr ⟨by rfl, rfl⟩) (by assumption) ?_
            try simp only [Act.put, List.setIfInBounds_toArray, List.set_cons_zero, List.set_cons_succ]
            refine wpAnyH_take (i := 24) (oi := { dst := some 77, op := Op.move (Operand.tmp 4), type := 9, pos := "law.go:87", after := #[{ on := 9, ground := Ground.guard }], guard := some (9, true) }) (v := undef) rfl (by kernel_rfl) (by kernel_rfl) (by kernel_rfl) (fun _ _ _ h => h) (Or.inr ⟨by rfl, rfl⟩) (by assumption) ?_
            try simp only [Act.put, List.setIfInBounds_toArray, List.set_cons_zero, List.set_cons_succ]
            refine wpAnyH_take (i := 25) (oi := { dst := some 78, op := Op.call { callee := Callee.value (Operand.func 13), args := #[Operand.tmp 71, Operand.tmp 76, Operand.tmp 77], argTypes := #[3, 9, 9] }, type := 3, pos := "law.go:87", after := #[{ on := 18, ground := Ground.data }, { on := 23, ground := Ground.data }, { on := 24, ground := Ground.data }, { on := 17, ground := Ground.chain }, { on := 9, ground := Ground.guard }], guard := some (9, true) }) (v := undef) rfl (by kernel_rfl) (by kernel_rfl) (by kernel_rfl) (fun _ _ _ h => h) (Or.inr ⟨by rfl, rfl⟩) (by assumption) ?_
            try simp only [Act.put, List.setIfInBounds_toArray, List.set_cons_zero, List.set_cons_succ]
            refine wpAnyH_take (i := 26) (oi := { dst := some 79, op := Op.binOp BinOp.eql 3 (Operand.tmp 70) (Operand.tmp 78) 3, type := 4, pos := "law.go:87", after := #[{ on := 17, ground := Ground.data }, { on := 25, ground := Ground.data }, { on := 9, ground := Ground.guard }], guard := some (9, true) }) (v := undef) rfl (by kernel_rfl) (by kernel_rfl) (by kernel_rfl) (fun _ _ _ h => h) (Or.inr ⟨by rfl, rfl⟩) (by assumption) ?_
            try simp only [Act.put, List.setIfInBounds_toArray, List.set_cons_zero, List.set_cons_succ]
            refine wpAnyH_take (i := 27) (oi := { dst := some 80, op := Op.pick (Operand.tmp 62) (Operand.tmp 79) (Operand.const (Value.bool false)), type := 4, pos := "law.go:87", after := #[{ on := 9, ground := Ground.data }, { on := 26, ground := Ground.data }], guard := none }) (v := ?v27d) rfl (by kernel_rfl) (by kernel_rfl) (by kernel_rfl) (fun _ _ _ h => h) (Or.inl ⟨by rfl, ?y27d⟩) (by assumption) ?r27d
            case y27d => (intro w hSw; (try dsimp only at hSw); go_simp; first | done | with_reducible rfl)
            try simp only [Act.put, List.setIfInBounds_toArray, List.set_cons_zero, List.set_cons_succ]
            refine wpAnyH_done (by kernel_rfl) ?_ _
            all_goals
              go_wp2
              go_roundw
              case rel => exact ⟨l + 1, by go_num, by omega, HN3.out, hHeld.2.out⟩
              case measure => simp [intOf]; omega
        · have hlji : ¬ (l : Int) < (j : Int) := by omega
          have hjl : l = j := by omega
          subst hjl
          have HN3 : Box (∀ x y, x < l + 1 → y < x → ¬ badQ m x y) := box (fun x y hx hy => by
            by_cases e : x = l
            · subst e; exact HN2.out y hy
            · exact HN.out x y (by omega) hy)
          go_wp2
          go_roundw
          case rel => exact ⟨l + 1, by go_num, hlt, HN3.out, BI.out⟩
          case measure => simp [intOf]; omega
    · have hji : ¬ (j : Int) < (L.length : Int) := by omega
      have hjl : j = L.length := by omega
      clear hlt hj
      have HNo : Box (∀ x y, x < L.length → y < x → ¬ badQ m x y) := box (by rw [← hjl]; exact HN.out)
      subst hjl
      obtain ⟨g0, off0, rfl, _, _⟩ := F0.out i hi
      have F1 := box (F0.out.below BL.out)
      have hs0 := BL.out.size
      go_wp2_with (at_builtin; refine wpList_append_prfs _ rfl (.const (.slice none 0 0)) (.tmp 81) rfl w.heap.size (.slice none 0 0) [] L rfl (OwnQ.nil _ _) (some ⟨g0, off0, none⟩) cap rfl ?n1 F1.out ?l0 ?l1 hs0 ?_)
      case l1 => omega
      intro v6 w6 hO6 hb6
      have B6 := box (BL.out.trans hb6)
      have O6 := box hO6
      rcases hO6.2 with ⟨_, hn⟩ | ⟨g, cap6, cur, rfl, hgB, hg, _, _, _, _⟩
      · omega
      have HF : Box (∀ j, w6.drew.frozen? ⟨g, j, none⟩ = false) := box (fun j => Lib.frozen_of_heap hg j)
      have HG : Box (w6.drew.heap[g]? = some (.cells cur 33 (0, 0))) := box hg
      clear hO6 hb6 hg
      have F6 : Box (Qs w6 (some ⟨g, 0, none⟩) L) := box (by
        obtain ⟨a7, c7, e7, f7, _⟩ := O6.out.qs
        injection e7 with e7 _ _
        rw [e7]; exact f7)
      obtain ⟨g1, off1, e, c0, c1⟩ := F6.out i hi
      cases e
      obtain ⟨g1, off1, e, d0, d1⟩ := F6.out t ht
      cases e
      rw [Nat.zero_add] at c0 c1 d0 d1
      obtain ⟨p, hp⟩ : ∃ p, L[i] = p := ⟨_, rfl⟩
      obtain ⟨r, hr⟩ : ∃ r, L[t] = r := ⟨_, rfl⟩
      rw [hp] at c0 c1
      rw [hr] at d0 d1
      have ii : (0 : Int) ≤ (i : Int) := by omega
      have ii2 : (i : Int) < (L.length : Int) := by omega
      have tt : (0 : Int) ≤ (t : Int) := by omega
      have tt2 : (t : Int) < (L.length : Int) := by omega
      have f0 : w6.frozen? ⟨g, i * 2, none⟩ = false := HF.out _
      have f1 : w6.frozen? ⟨g, i * 2 + 1, none⟩ = false := HF.out _
      have f2 : w6.frozen? ⟨g, t * 2, none⟩ = false := HF.out _
      have f3 : w6.frozen? ⟨g, t * 2 + 1, none⟩ = false := HF.out _
      obtain ⟨u1, e1⟩ : ∃ u, (w6.setCell ⟨g, i * 2, none⟩ (.string r.1)).cell? ⟨g, i * 2 + 1, none⟩ = some u :=
        Option.isSome_iff_exists.1 (World.isSome_setCells g [.string r.1] (i * 2) w6 ⟨g, i * 2 + 1, none⟩ (by rw [c1]; rfl))
      obtain ⟨u2, e2⟩ : ∃ u, ((w6.setCell ⟨g, i * 2, none⟩ (.string r.1)).setCell ⟨g, i * 2 + 1, none⟩ (.int .i64 r.2)).cell? ⟨g, t * 2, none⟩ = some u :=
        Option.isSome_iff_exists.1 (World.isSome_setCells g [.string r.1, .int .i64 r.2] (i * 2) w6 ⟨g, t * 2, none⟩ (by rw [d0]; rfl))
      obtain ⟨u3, e3⟩ : ∃ u, (((w6.setCell ⟨g, i * 2, none⟩ (.string r.1)).setCell ⟨g, i * 2 + 1, none⟩ (.int .i64 r.2)).setCell ⟨g, t * 2, none⟩ (.string p.1)).cell? ⟨g, t * 2 + 1, none⟩ = some u :=
        Option.isSome_iff_exists.1 (World.isSome_setCells g [.string p.1] (t * 2) _ ⟨g, t * 2 + 1, none⟩ (World.isSome_setCells g [.string r.1, .int .i64 r.2] (i * 2) w6 ⟨g, t * 2 + 1, none⟩ (by rw [d1]; rfl)))
      obtain ⟨W8, hW8⟩ : ∃ W8, ((((w6.setCell ⟨g, i * 2, none⟩ (.string r.1)).setCell ⟨g, i * 2 + 1, none⟩ (.int .i64 r.2)).setCell ⟨g, t * 2, none⟩ (.string p.1)).setCell ⟨g, t * 2 + 1, none⟩ (.int .i64 p.2)) = W8 := ⟨_, rfl⟩
      have HW8 := box hW8
      have O8 : Box (OwnQ W8.drew w.heap.size (.slice (some ⟨g, 0, none⟩) L.length cap6) (swapQ L i t p r)) := box (by
        rw [← hW8]
        exact (OwnQ.put (OwnQ.put (w := w6) O6.out rfl r) (by simp) p))
      have B8 : Box (Below w.heap.size w W8.drew) := box (by
        rw [← hW8]
        exact (((((B6.out.setCell (p := ⟨g, i * 2, none⟩) hgB _).setCell (p := ⟨g, i * 2 + 1, none⟩) hgB _).setCell (p := ⟨g, t * 2, none⟩) hgB _).setCell (p := ⟨g, t * 2 + 1, none⟩) hgB _)).drew)
      clear hW8
      obtain ⟨q, hq⟩ : ∃ q, qualR k L true v.data.toList = q := ⟨_, rfl⟩
      have HQ := box hq
      have HQ2 : Box (qualR k (swapQ L i t p r) true v.data.toList = q) := box (by
        rw [← hq]
        refine qual_same (swap_mem1 hi ht hp hr) (swap_mem2 hi ht hp hr) (fun x hx y hy hxy h0 he => ?_)
        rw [HM.out x hx] at h0 he
        rw [HM.out y hy] at he
        rcases Nat.lt_or_ge y x with h | h
        · exact HNo.out x y hx h ⟨h0, he⟩
        · exact HNo.out y x hy (by omega) ⟨by rw [← he]; exact h0, he.symm⟩)
      have HS : Box ((swapQ L i t p r).length = L.length) := box swap_len
      have HL6 : Box (L.length ≤ 65536) := box (by omega)
      have HS6 : Box ((swapQ L i t p r).length ≤ 65536) := box (by rw [swap_len]; omega)
      have zS : Box (∀ j (hj : j < (swapQ L i t p r).length), (swapQ L i t p r)[j].1.size ≤ 20000) := box (fun j hj => by
        obtain ⟨x, hx, hxe⟩ := List.mem_iff_getElem.1 (swap_mem2 hi ht hp hr _ (List.getElem_mem hj))
        rw [← hxe]; exact zL.out x hx)
      obtain ⟨M, hM⟩ : ∃ M, swapQ L i t p r = M := ⟨_, rfl⟩
      rw [hM] at O8 HQ2 HS HS6 zS
      clear O6 F6 HF HG hp hr hq HNo HN hM
      go_wp2
      go_region
      all_goals
        rw [HW8.out]
        clear HW8 e1 e2 e3 f0 f1 f2 f3 c0 c1 d0 d1
        go_wp2_with fail
        refine (mQuality_is hki (box rfl) HL6 zL hv (F0.out.below B8.out) HQ).mono ?_; rintro e w7 ⟨rfl, hb7⟩
        have B7 := box (B8.out.trans (hb7.mono B8.out.size))
        obtain ⟨a7, c7, e7, f7, _⟩ := (show OwnQ w7 w.heap.size _ _ from own_below O8.out hb7).qs
        injection e7 with e7 e8 e9
        clear e8 e9
        subst e7
        go_wp2_with fail
        refine (mQuality_is (L := M) hki HS HS6 zS hv f7 HQ2).mono ?_; rintro e w8 ⟨rfl, hb8⟩
        have B9 := box (B7.out.trans (hb8.mono B7.out.size))
        clear hb7 hb8 f7
        go_wp2_with fail
        refine (awake14_any _).mono ?_; rintro e w9 ⟨rfl, hb9⟩
        have B10 := box (B9.out.trans (hb9.mono B9.out.size))
        clear hb9
        go_wp2
        go_ret
        exact ⟨rfl, B10.out⟩
theorem orderless14_walk (k : Int) (a : Option Addr) (cap : Nat) (L : List QP) (i t : Int) (v : ByteArray) (w : World) (hk0 : (Lit.int .i64 k).wf = true) (hl : L.length ≤ maxLen) (hF : Qs w a L ∧ ∀ i (h : i < L.length), InI64 L[i].2) (hc : L.length ≤ cap) (hi0 : (Lit.int .i64 i).wf = true) (ht0 : (Lit.int .i64 t).wf = true) (S : v.size ≤ maxLen) :
    Calls Try.prog 6 #[.int .i64 k, .slice a L.length cap, .int .i64 i, .int .i64 t, .string v] w fun e w' => e = .returned (.bool true) ∧ Below w.heap.size w w' := by
  have hki := in14 hk0
  have F0 := box hF.1
  have HL := box hl
  clear hk0 hF hl hc hi0 ht0
  unfold maxLen at S
  rcases hk : keepQ L with _ | _
  · have HK := box hk
    clear hk
    go_enter Try.func6, Try.ntmps6
    go_wp2_with fail
    refine (keepPrefs_any a cap L _ HL.out F0).mono ?_; rintro e w1 ⟨rfl, rfl⟩; rw [HK.out]
    go_wp2
    go_ret
    exact ⟨rfl, Below.refl _ _⟩
  · have HK := box hk
    obtain ⟨b1, b2⟩ := keepQ_bounds hk
    have zL : Box (∀ i (hi : i < L.length), L[i].1.size ≤ 20000) := box (fun i hi => by have := b2 i hi; omega)
    clear hk b2
    by_cases h1 : 100 < v.size
    · have i1 : (100 : Int) < (v.size : Int) := by omega
      go_enter Try.func6, Try.ntmps6
      go_wp2_with fail
      refine (keepPrefs_any a cap L _ HL.out F0).mono ?_; rintro e w1 ⟨rfl, rfl⟩; rw [HK.out]
      go_wp2
      go_ret
      exact ⟨rfl, Below.refl _ _⟩
    · have j1 : ¬ (100 : Int) < (v.size : Int) := by omega
      by_cases h2 : i < 0
      · go_enter Try.func6, Try.ntmps6
        go_wp2_with fail
        refine (keepPrefs_any a cap L _ HL.out F0).mono ?_; rintro e w1 ⟨rfl, rfl⟩; rw [HK.out]
        go_wp2
        go_ret
        exact ⟨rfl, Below.refl _ _⟩
      · obtain ⟨n, rfl⟩ : ∃ n : Nat, i = (n : Int) := ⟨i.toNat, by omega⟩
        by_cases h3 : L.length ≤ n
        · have i3 : (L.length : Int) ≤ (n : Int) := by omega
          go_enter Try.func6, Try.ntmps6
          go_wp2_with fail
          refine (keepPrefs_any a cap L _ HL.out F0).mono ?_; rintro e w1 ⟨rfl, rfl⟩; rw [HK.out]
          go_wp2
          go_ret
          exact ⟨rfl, Below.refl _ _⟩
        · have j3 : ¬ (L.length : Int) ≤ (n : Int) := by omega
          by_cases h4 : t < 0
          · go_enter Try.func6, Try.ntmps6
            go_wp2_with fail
            refine (keepPrefs_any a cap L _ HL.out F0).mono ?_; rintro e w1 ⟨rfl, rfl⟩; rw [HK.out]
            go_wp2
            go_ret
            exact ⟨rfl, Below.refl _ _⟩
          · obtain ⟨m, rfl⟩ : ∃ m : Nat, t = (m : Int) := ⟨t.toNat, by omega⟩
            by_cases h5 : L.length ≤ m
            · have i5 : (L.length : Int) ≤ (m : Int) := by omega
              go_enter Try.func6, Try.ntmps6
              go_wp2_with fail
              refine (keepPrefs_any a cap L _ HL.out F0).mono ?_; rintro e w1 ⟨rfl, rfl⟩; rw [HK.out]
              go_wp2
              go_ret
              exact ⟨rfl, Below.refl _ _⟩
            · exact order14_in k a cap L n m v w hki HL F0 HK b1 zL (by omega) (by omega) (by omega)
end
end Go.Proofs.Ytgmfmlcpogbolaa.Asc
