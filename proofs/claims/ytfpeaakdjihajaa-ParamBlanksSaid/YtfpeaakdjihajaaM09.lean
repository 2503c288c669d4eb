/- Merged texts: ParLaws2 ParLaws3. -/
import Derived.Test.YtfpeaakdjihajaaM08
import Derived.Deep.RegionHeld3
set_option linter.unusedVariables false
set_option linter.unusedSimpArgs false
set_option maxRecDepth 100000
namespace Go.Proofs.Ytfpeaakdjihajaa.Asc
section
open Go.RowKit
theorem rTokenQ {s : ByteArray} {b : Bool} {w : World} (hs : s.size ≤ maxLen) (h : Box (tokL s.data.toList = b)) :
    Calls Try.prog 32 #[.string s] w fun e w' => e = .returned (.bool b) ∧ w' = w :=
  (rToken_is hs h).mono fun e w' ⟨h1, h2⟩ => ⟨h1, h2.symm⟩
theorem rText9_is {s : ByteArray} {b : Bool} {w : World} (hs : s.size ≤ maxLen) (h : Box (textL s.data.toList = b)) :
    Calls Try.prog 33 #[.string s] w fun e w' => e = .returned (.bool b) ∧ w = w' :=
  (rText_any s w hs).mono fun e w' ⟨h1, h2⟩ => ⟨by rw [h1, h.out], h2⟩
def okB9 (p : F) : Prop := tokL p.1.data.toList = true ∧ lowL p.1.data.toList = p.1.data.toList ∧ textL p.2.data.toList = true
def BackRel (L : List F) (w : World) (i : Value) (wr : World) : Prop := ∃ k : Nat, i = .int .i64 k ∧ k ≤ L.length ∧ (∀ p ∈ L.take k, okB9 p) ∧ Below w.heap.size w wr
set_option maxHeartbeats 4000000 in
theorem back9_walk (v : ByteArray) (a : Option Addr) (cap : Nat) (L : List F) (w : World) (S : v.size ≤ maxLen) (hl : L.length ≤ maxLen) (hF : Fs w a L) (hc : L.length ≤ cap) :
    Calls Try.prog 9 #[.string v, .slice a L.length cap] w fun e w' => e = .returned (.bool true) ∧ Below w.heap.size w w' := by
  have F0 := box hF
  have HL := box hl
  have HSV := box S
  unfold maxLen at S hl
  clear hF
  by_cases h : 300 < v.size
  · have hi : (300 : Int) < (v.size : Int) := by omega
    go_enter Try.func9, Try.ntmps9
    go_wp2
    go_ret
    exact ⟨rfl, Below.refl _ _⟩
  · have hi : ¬ (300 : Int) < (v.size : Int) := by omega
    rcases hk : keepP L with _ | _
    · have HK := box hk
      clear hk
      go_enter Try.func9, Try.ntmps9
      go_wp2_with fail
      refine (keepParams_any a cap L _ HL.out F0).mono ?_; rintro e w1 ⟨rfl, rfl⟩; rw [HK.out]
      go_wp2
      go_ret
      exact ⟨rfl, Below.refl _ _⟩
    · have HK := box hk
      obtain ⟨hl8, hsm⟩ := keepP_parts hk
      have HSM := box hsm
      clear hk hsm
      rcases htv : tokL v.data.toList with _ | _
      · have HTV := box htv
        clear htv
        go_enter Try.func9, Try.ntmps9
        go_wp2_with fail
        refine (keepParams_any a cap L _ HL.out F0).mono ?_; rintro e w1 ⟨rfl, rfl⟩; rw [HK.out]
        go_wp2_with fail
        refine (rToken_is HSV.out HTV).mono ?_; rintro e w1 ⟨rfl, rfl⟩
        go_wp2
        go_ret
        exact ⟨rfl, Below.refl _ _⟩
      · have HTV := box htv
        clear htv
        go_enter Try.func9, Try.ntmps9
        go_wp2_with fail
        refine (keepParams_any a cap L _ HL.out F0).mono ?_; rintro e w1 ⟨rfl, rfl⟩; rw [HK.out]
        go_wp2_with fail
        refine (rToken_is HSV.out HTV).mono ?_; rintro e w1 ⟨rfl, rfl⟩
        go_wp2
        go_loopw [5] (fun i wr => BackRel L w i wr) (fun i _ => L.length - (intOf i).toNat)
        case atStart => exact ⟨0, rfl, Nat.zero_le _, fun p hp => by simp at hp, Below.refl _ _⟩
        case round =>
          obtain ⟨k, rfl, hk2, hall, hbel⟩ := hrel
          have HA := box hall
          have BL := box hbel
          have F1 := box (F0.out.below hbel)
          clear hall hbel
          by_cases hlt : k < L.length
          · obtain ⟨q, off, rfl, c0, c1⟩ := F1.out k hlt
            obtain ⟨z1, z2⟩ := HSM.out k hlt
            have hz1 : L[k].1.size ≤ maxLen := by unfold maxLen; omega
            have hz2 : L[k].2.size ≤ maxLen := by unfold maxLen; omega
            have hz4 : L[k].1.size ≤ 4294967296 := by omega
            have HZ1 := box hz1
            have HZ2 := box hz2
            have HZ4 := box hz4
            clear hz1 hz2 hz4
            rcases ht : tokL L[k].1.data.toList with _ | _
            · have HT := box ht
              clear ht
              go_wp2
              go_quiet (first | (go_at_call 32; exact Calls.quiet_of_same (rTokenQ HZ1.out HT)))
              go_wp2
              go_ret
              exact ⟨rfl, BL.out.trans ((below_drewN _ _).mono BL.out.size)⟩
            · have HT := box ht
              clear ht
              obtain ⟨lx, hlx⟩ : ∃ lx, bs (lowL L[k].1.data.toList) = lx := ⟨_, rfl⟩
              have HLX := box hlx
              rcases hle : (lx.toList == L[k].1.toList) with _ | _
              · have hne : (!(lx.toList == L[k].1.toList)) = true := by rw [hle]; rfl
                go_wp2
                refine wp_region_held_drew (S := (fun w' : World => w'.cell? ⟨q, off + k * 2, none⟩ = some (.string L[k].1) ∧ w'.cell? ⟨q, off + k * 2 + 1, none⟩ = some (.string L[k].2))) (by kernel_rfl) ⟨c0, c1⟩ (fun hHeld => ?_)
                refine wpAnyH_take (i := 0) (oi := { dst := some 28, op := Op.move (Operand.tmp 1), type := 39, pos := "law.go:43", after := #[], guard := none }) (v := ?v0) rfl (by kernel_rfl) (by kernel_rfl) (by kernel_rfl) (fun _ _ _ h => h) (Or.inl ⟨by rfl, ?y0⟩) (by assumption) ?r0
                case y0 => (intro w hSw; (try dsimp only at hSw); go_simp; first | done | with_reducible rfl)
                try simp only [Act.put, List.setIfInBounds_toArray, List.set_cons_zero, List.set_cons_succ]
                refine wpAnyH_take (i := 1) (oi := { dst := some 29, op := Op.move (Operand.tmp 5), type := 3, pos := "law.go:43", after := #[], guard := none }) (v := ?v1) rfl (by kernel_rfl) (by kernel_rfl) (by kernel_rfl) (fun _ _ _ h => h) (Or.inl ⟨by rfl, ?y1⟩) (by assumption) ?r1
                case y1 => (intro w hSw; (try dsimp only at hSw); go_simp; first | done | with_reducible rfl)
                try simp only [Act.put, List.setIfInBounds_toArray, List.set_cons_zero, List.set_cons_succ]
                refine wpAnyH_take (i := 2) (oi := { dst := some 30, op := Op.indexAddr 39 (Operand.tmp 28) (Operand.tmp 29), type := 0, pos := "law.go:43", after := #[{ on := 0, ground := Ground.data }, { on := 1, ground := Ground.data }], guard := none }) (v := ?v2) rfl (by kernel_rfl) (by kernel_rfl) (by kernel_rfl) (fun _ _ _ h => h) (Or.inl ⟨by rfl, ?y2⟩) (by assumption) ?r2
                case y2 => (intro w hSw; (try dsimp only at hSw); go_simp; first | done | with_reducible rfl)
                try simp only [Act.put, List.setIfInBounds_toArray, List.set_cons_zero, List.set_cons_succ]
                refine wpAnyH_take (i := 3) (oi := { dst := some 31, op := Op.fieldAddr 48 (Operand.tmp 30) 0, type := 0, pos := "law.go:43", after := #[{ on := 2, ground := Ground.data }], guard := none }) (v := ?v3) rfl (by kernel_rfl) (by kernel_rfl) (by kernel_rfl) (fun _ _ _ h => h) (Or.inl ⟨by rfl, ?y3⟩) (by assumption) ?r3
                case y3 => (intro w hSw; (try dsimp only at hSw); go_simp; first | done | with_reducible rfl)
                try simp only [Act.put, List.setIfInBounds_toArray, List.set_cons_zero, List.set_cons_succ]
                refine wpAnyH_take (i := 4) (oi := { dst := some 32, op := Op.load 9 (Operand.tmp 31), type := 9, pos := "law.go:43", after := #[{ on := 3, ground := Ground.data }], guard := none }) (v := ?v4) rfl (by kernel_rfl) (by kernel_rfl) (by kernel_rfl) (fun _ _ _ h => h) (Or.inl ⟨by rfl, ?y4⟩) (by assumption) ?r4
                case y4 => (intro w hSw; (try dsimp only at hSw); go_simp; first | done | with_reducible rfl)
                try simp only [Act.put, List.setIfInBounds_toArray, List.set_cons_zero, List.set_cons_succ]
                refine wpAnyH_ready (rs := [5]) (by kernel_rfl) (by simp) ?_
                refine AllReadyH.cons (o := { dst := some 33, op := Op.call { callee := Callee.value (Operand.func 32), args := #[Operand.tmp 32], argTypes := #[9] }, type := 4, pos := "law.go:43", after := #[{ on := 4, ground := Ground.data }], guard := none }) rfl (fun K hK => ?_) AllReadyH.nil
                go_simp
                refine (rToken_is HZ1.out HT).mono ?_; rintro e w1 ⟨rfl, rfl⟩
                go_wp2_with fail
                refine hK.out _ _ ⟨c0, c1⟩ (fun hHeld => ?_)
                clear hK K
                try simp only [Act.put, List.setIfInBounds_toArray, List.set_cons_zero, List.set_cons_succ]
                refine wpAnyH_take (i := 6) (oi := { dst := some 34, op := Op.unOp UnOp.not 4 (Operand.tmp 33), type := 4, pos := "law.go:43", after := #[{ on := 5, ground := Ground.data }], guard := none }) (v := ?v6) rfl (by kernel_rfl) (by kernel_rfl) (by kernel_rfl) (fun _ _ _ h => h) (Or.inl ⟨by rfl, ?y6⟩) (by assumption) ?r6
                case y6 => (intro w hSw; (try dsimp only at hSw); go_simp; first | done | with_reducible rfl)
                try simp only [Act.put, List.setIfInBounds_toArray, List.set_cons_zero, List.set_cons_succ]
                refine wpAnyH_take (i := 7) (oi := { dst := some 35, op := Op.move (Operand.tmp 34), type := 4, pos := "law.go:43", after := #[{ on := 6, ground := Ground.data }, { on := 5, ground := Ground.chain }], guard := none }) (v := ?v7) rfl (by kernel_rfl) (by kernel_rfl) (by kernel_rfl) (fun _ _ _ h => h) (Or.inl ⟨by rfl, ?y7⟩) (by assumption) ?r7
                case y7 => (intro w hSw; (try dsimp only at hSw); go_simp; first | done | with_reducible rfl)
                try simp only [Act.put, List.setIfInBounds_toArray, List.set_cons_zero, List.set_cons_succ]
                refine wpAnyH_take (i := 8) (oi := { dst := some 36, op := Op.move (Operand.tmp 1), type := 39, pos := "law.go:43", after := #[{ on := 7, ground := Ground.guard }], guard := some (7, false) }) (v := ?v8) rfl (by kernel_rfl) (by kernel_rfl) (by kernel_rfl) (fun _ _ _ h => h) (Or.inl ⟨by rfl, ?y8⟩) (by assumption) ?r8
                case y8 => (intro w hSw; (try dsimp only at hSw); go_simp; first | done | with_reducible rfl)
                try simp only [Act.put, List.setIfInBounds_toArray, List.set_cons_zero, List.set_cons_succ]
                refine wpAnyH_take (i := 9) (oi := { dst := some 37, op := Op.move (Operand.tmp 5), type := 3, pos := "law.go:43", after := #[{ on := 7, ground := Ground.guard }], guard := some (7, false) }) (v := ?v9) rfl (by kernel_rfl) (by kernel_rfl) (by kernel_rfl) (fun _ _ _ h => h) (Or.inl ⟨by rfl, ?y9⟩) (by assumption) ?r9
                case y9 => (intro w hSw; (try dsimp only at hSw); go_simp; first | done | with_reducible rfl)
                try simp only [Act.put, List.setIfInBounds_toArray, List.set_cons_zero, List.set_cons_succ]
                refine wpAnyH_take (i := 10) (oi := { dst := some 38, op := Op.indexAddr 39 (Operand.tmp 36) (Operand.tmp 37), type := 0, pos := "law.go:43", after := #[{ on := 8, ground := Ground.data }, { on := 9, ground := Ground.data }, { on := 7, ground := Ground.guard }], guard := some (7, false) }) (v := ?v10) rfl (by kernel_rfl) (by kernel_rfl) (by kernel_rfl) (fun _ _ _ h => h) (Or.inl ⟨by rfl, ?y10⟩) (by assumption) ?r10
                case y10 => (intro w hSw; (try dsimp only at hSw); go_simp; first | done | with_reducible rfl)
                try simp only [Act.put, List.setIfInBounds_toArray, List.set_cons_zero, List.set_cons_succ]
                refine wpAnyH_take (i := 11) (oi := { dst := some 39, op := Op.fieldAddr 48 (Operand.tmp 38) 0, type := 0, pos := "law.go:43", after := #[{ on := 10, ground := Ground.data }, { on := 7, ground := Ground.guard }], guard := some (7, false) }) (v := ?v11) rfl (by kernel_rfl) (by kernel_rfl) (by kernel_rfl) (fun _ _ _ h => h) (Or.inl ⟨by rfl, ?y11⟩) (by assumption) ?r11
                case y11 => (intro w hSw; (try dsimp only at hSw); go_simp; first | done | with_reducible rfl)
                try simp only [Act.put, List.setIfInBounds_toArray, List.set_cons_zero, List.set_cons_succ]
                refine wpAnyH_take (i := 12) (oi := { dst := some 40, op := Op.load 9 (Operand.tmp 39), type := 9, pos := "law.go:43", after := #[{ on := 11, ground := Ground.data }, { on := 7, ground := Ground.guard }], guard := some (7, false) }) (v := ?v12) rfl (by kernel_rfl) (by kernel_rfl) (by kernel_rfl) (fun _ _ _ h => h) (Or.inl ⟨by rfl, ?y12⟩) (by assumption) ?r12
                case y12 => (intro w hSw; (try dsimp only at hSw); go_simp; first | done | with_reducible rfl)
                try simp only [Act.put, List.setIfInBounds_toArray, List.set_cons_zero, List.set_cons_succ]
                refine wpAnyH_take (i := 14) (oi := { dst := some 42, op := Op.move (Operand.tmp 1), type := 39, pos := "law.go:43", after := #[{ on := 7, ground := Ground.guard }], guard := some (7, false) }) (v := ?v14) rfl (by kernel_rfl) (by kernel_rfl) (by kernel_rfl) (fun _ _ _ h => h) (Or.inl ⟨by rfl, ?y14⟩) (by assumption) ?r14
                case y14 => (intro w hSw; (try dsimp only at hSw); go_simp; first | done | with_reducible rfl)
                try simp only [Act.put, List.setIfInBounds_toArray, List.set_cons_zero, List.set_cons_succ]
                refine wpAnyH_take (i := 15) (oi := { dst := some 43, op := Op.move (Operand.tmp 5), type := 3, pos := "law.go:43", after := #[{ on := 7, ground := Ground.guard }], guard := some (7, false) }) (v := ?v15) rfl (by kernel_rfl) (by kernel_rfl) (by kernel_rfl) (fun _ _ _ h => h) (Or.inl ⟨by rfl, ?y15⟩) (by assumption) ?r15
                case y15 => (intro w hSw; (try dsimp only at hSw); go_simp; first | done | with_reducible rfl)
                try simp only [Act.put, List.setIfInBounds_toArray, List.set_cons_zero, List.set_cons_succ]
                refine wpAnyH_take (i := 16) (oi := { dst := some 44, op := Op.indexAddr 39 (Operand.tmp 42) (Operand.tmp 43), type := 0, pos := "law.go:43", after := #[{ on := 14, ground := Ground.data }, { on := 15, ground := Ground.data }, { on := 7, ground := Ground.guard }], guard := some (7, false) }) (v := ?v16) rfl (by kernel_rfl) (by kernel_rfl) (by kernel_rfl) (fun _ _ _ h => h) (Or.inl ⟨by rfl, ?y16⟩) (by assumption) ?r16
                case y16 => (intro w hSw; (try dsimp only at hSw); go_simp; first | done | with_reducible rfl)
                try simp only [Act.put, List.setIfInBounds_toArray, List.set_cons_zero, List.set_cons_succ]
                refine wpAnyH_take (i := 17) (oi := { dst := some 45, op := Op.fieldAddr 48 (Operand.tmp 44) 0, type := 0, pos := "law.go:43", after := #[{ on := 16, ground := Ground.data }, { on := 7, ground := Ground.guard }], guard := some (7, false) }) (v := ?v17) rfl (by kernel_rfl) (by kernel_rfl) (by kernel_rfl) (fun _ _ _ h => h) (Or.inl ⟨by rfl, ?y17⟩) (by assumption) ?r17
                case y17 => (intro w hSw; (try dsimp only at hSw); go_simp; first | done | with_reducible rfl)
                try simp only [Act.put, List.setIfInBounds_toArray, List.set_cons_zero, List.set_cons_succ]
                refine wpAnyH_take (i := 18) (oi := { dst := some 46, op := Op.load 9 (Operand.tmp 45), type := 9, pos := "law.go:43", after := #[{ on := 17, ground := Ground.data }, { on := 7, ground := Ground.guard }], guard := some (7, false) }) (v := ?v18) rfl (by kernel_rfl) (by kernel_rfl) (by kernel_rfl) (fun _ _ _ h => h) (Or.inl ⟨by rfl, ?y18⟩) (by assumption) ?r18
                case y18 => (intro w hSw; (try dsimp only at hSw); go_simp; first | done | with_reducible rfl)
                try simp only [Act.put, List.setIfInBounds_toArray, List.set_cons_zero, List.set_cons_succ]
                refine wpAnyH_ready (rs := [13]) (by kernel_rfl) (by simp) ?_
                refine AllReadyH.cons (o := { dst := some 41, op := Op.call { callee := Callee.value (Operand.func 21), args := #[Operand.tmp 40], argTypes := #[9] }, type := 9, pos := "law.go:43", after := #[{ on := 12, ground := Ground.data }, { on := 7, ground := Ground.chain }, { on := 7, ground := Ground.guard }], guard := some (7, false) }) rfl (fun K hK => ?_) AllReadyH.nil
                go_simp
                refine (rLower9_is HZ4.out HLX).mono ?_; rintro e w2 ⟨rfl, hb2⟩
                go_wp2_with fail
                refine hK.out _ _ ⟨(hb2.cell (p := ⟨q, off + k * 2, none⟩) (cell_lt c0)).trans c0, (hb2.cell (p := ⟨q, off + k * 2 + 1, none⟩) (cell_lt c1)).trans c1⟩ (fun hHeld => ?_)
                clear hK K
                try simp only [Act.put, List.setIfInBounds_toArray, List.set_cons_zero, List.set_cons_succ]
                refine wpAnyH_take (i := 19) (oi := { dst := some 47, op := Op.binOp BinOp.neq 9 (Operand.tmp 41) (Operand.tmp 46) 9, type := 4, pos := "law.go:43", after := #[{ on := 13, ground := Ground.data }, { on := 18, ground := Ground.data }, { on := 7, ground := Ground.guard }], guard := some (7, false) }) (v := ?v19) rfl (by kernel_rfl) (by kernel_rfl) (by kernel_rfl) (fun _ _ _ h => h) (Or.inl ⟨by rfl, ?y19⟩) (by assumption) ?r19
                case y19 => (intro w hSw; (try dsimp only at hSw); go_simp; first | done | with_reducible rfl)
                try simp only [Act.put, List.setIfInBounds_toArray, List.set_cons_zero, List.set_cons_succ]
                refine wpAnyH_take (i := 20) (oi := { dst := some 48, op := Op.pick (Operand.tmp 35) (Operand.const (Value.bool true)) (Operand.tmp 47), type := 4, pos := "law.go:43", after := #[{ on := 7, ground := Ground.data }, { on := 19, ground := Ground.data }], guard := none }) (v := ?v20) rfl (by kernel_rfl) (by kernel_rfl) (by kernel_rfl) (fun _ _ _ h => h) (Or.inl ⟨by rfl, ?y20⟩) (by assumption) ?r20
                case y20 => (intro w hSw; (try dsimp only at hSw); go_simp; first | done | with_reducible rfl)
                try simp only [Act.put, List.setIfInBounds_toArray, List.set_cons_zero, List.set_cons_succ]
                refine wpAnyH_take (i := 21) (oi := { dst := some 49, op := Op.move (Operand.tmp 48), type := 4, pos := "law.go:43", after := #[{ on := 20, ground := Ground.data }, { on := 13, ground := Ground.chain }], guard := none }) (v := ?v21) rfl (by kernel_rfl) (by kernel_rfl) (by kernel_rfl) (fun _ _ _ h => h) (Or.inl ⟨by rfl, ?y21⟩) (by assumption) ?r21
                case y21 => (intro w hSw; (try dsimp only at hSw); go_simp; first | done | with_reducible rfl)
                try simp only [Act.put, List.setIfInBounds_toArray, List.set_cons_zero, List.set_cons_succ]
                refine wpAnyH_take (i := 22) (oi := { dst := some 50, op := Op.move (Operand.tmp 1), type := 39, pos := "law.go:43", after := #[{ on := 21, ground := Ground.guard }], guard := some (21, false) }) (v := undef) rfl (by kernel_rfl) (by kernel_rfl) (by kernel_rfl) (fun _ _ _ h => h) (Or.inr ⟨by rfl, rfl⟩) (by assumption) ?_
                try simp only [Act.put, List.setIfInBounds_toArray, List.set_cons_zero, List.set_cons_succ]
                refine wpAnyH_take (i := 23) (oi := { dst := some 51, op := Op.move (Operand.tmp 5), type := 3, pos := "law.go:43", after := #[{ on := 21, ground := Ground.guard }], guard := some (21, false) }) (v := undef) rfl (by kernel_rfl) (by kernel_rfl) (by kernel_rfl) (fun _ _ _ h => h) (Or.inr ⟨by rfl, rfl⟩) (by assumption) ?_
                try simp only [Act.put, List.setIfInBounds_toArray, List.set_cons_zero, List.set_cons_succ]
                refine wpAnyH_take (i := 24) (oi := { dst := some 52, op := Op.indexAddr 39 (Operand.tmp 50) (Operand.tmp 51), type := 0, pos := "law.go:43", after := #[{ on := 22, ground := Ground.data }, { on := 23, ground := Ground.data }, { on := 21, ground := Ground.guard }], guard := some (21, false) }) (v := undef) rfl (by kernel_rfl) (by kernel_rfl) (by kernel_rfl) (fun _ _ _ h => h) (Or.inr ⟨by rfl, rfl⟩) (by assumption) ?_
                try simp only [Act.put, List.setIfInBounds_toArray, List.set_cons_zero, List.set_cons_succ]
                refine wpAnyH_take (i := 25) (oi := { dst := some 53, op := Op.fieldAddr 48 (Operand.tmp 52) 1, type := 0, pos := "law.go:43", after := #[{ on := 24, ground := Ground.data }, { on := 21, ground := Ground.guard }], guard := some (21, false) }) (v := undef) rfl (by kernel_rfl) (by kernel_rfl) (by kernel_rfl) (fun _ _ _ h => h) (Or.inr ⟨by rfl, rfl⟩) (by assumption) ?_
                try simp only [Act.put, List.setIfInBounds_toArray, List.set_cons_zero, List.set_cons_succ]
                refine wpAnyH_take (i := 26) (oi := { dst := some 54, op := Op.load 9 (Operand.tmp 53), type := 9, pos := "law.go:43", after := #[{ on := 25, ground := Ground.data }, { on := 21, ground := Ground.guard }], guard := some (21, false) }) (v := undef) rfl (by kernel_rfl) (by kernel_rfl) (by kernel_rfl) (fun _ _ _ h => h) (Or.inr ⟨by rfl, rfl⟩) (by assumption) ?_
                try simp only [Act.put, List.setIfInBounds_toArray, List.set_cons_zero, List.set_cons_succ]
                refine wpAnyH_take (i := 27) (oi := { dst := some 55, op := Op.call { callee := Callee.value (Operand.func 33), args := #[Operand.tmp 54], argTypes := #[9] }, type := 4, pos := "law.go:43", after := #[{ on := 26, ground := Ground.data }, { on := 21, ground := Ground.chain }, { on := 21, ground := Ground.guard }], guard := some (21, false) }) (v := undef) rfl (by kernel_rfl) (by kernel_rfl) (by kernel_rfl) (fun _ _ _ h => h) (Or.inr ⟨by rfl, rfl⟩) (by assumption) ?_
                try simp only [Act.put, List.setIfInBounds_toArray, List.set_cons_zero, List.set_cons_succ]
                refine wpAnyH_take (i := 28) (oi := { dst := some 56, op := Op.unOp UnOp.not 4 (Operand.tmp 55), type := 4, pos := "law.go:43", after := #[{ on := 27, ground := Ground.data }, { on := 21, ground := Ground.guard }], guard := some (21, false) }) (v := undef) rfl (by kernel_rfl) (by kernel_rfl) (by kernel_rfl) (fun _ _ _ h => h) (Or.inr ⟨by rfl, rfl⟩) (by assumption) ?_
                try simp only [Act.put, List.setIfInBounds_toArray, List.set_cons_zero, List.set_cons_succ]
                refine wpAnyH_take (i := 29) (oi := { dst := some 57, op := Op.pick (Operand.tmp 49) (Operand.const (Value.bool true)) (Operand.tmp 56), type := 4, pos := "law.go:43", after := #[{ on := 21, ground := Ground.data }, { on := 28, ground := Ground.data }], guard := none }) (v := ?v29) rfl (by kernel_rfl) (by kernel_rfl) (by kernel_rfl) (fun _ _ _ h => h) (Or.inl ⟨by rfl, ?y29⟩) (by assumption) ?r29
                case y29 => (intro w hSw; (try dsimp only at hSw); go_simp; first | done | with_reducible rfl)
                try simp only [Act.put, List.setIfInBounds_toArray, List.set_cons_zero, List.set_cons_succ]
                refine wpAnyH_done (by kernel_rfl) ?_ _
                all_goals
                  go_wp2
                  go_ret
                  exact ⟨rfl, BL.out.trans ((Below.refl _ _).drew.trans (hb2.mono BL.out.size))⟩
              · have hne : (!(lx.toList == L[k].1.toList)) = false := by rw [hle]; rfl
                have hlow : lowL L[k].1.data.toList = L[k].1.data.toList := by
                  have e := str_eq hle
                  rw [← hlx] at e
                  have := congrArg (fun b : ByteArray => b.data.toList) e
                  exact this
                rcases htx : textL L[k].2.data.toList with _ | _
                · have HTX := box htx
                  clear htx hlow hlx
                  go_wp2
                  first
                    | (go_region_held3 (fun w' => w'.cell? ⟨q, off + k * 2, none⟩ = some (.string L[k].1) ∧ w'.cell? ⟨q, off + k * 2 + 1, none⟩ = some (.string L[k].2))
                      (first | exact ⟨c0, c1⟩ | (exact ⟨(hb2.cell (p := ⟨q, off + k * 2, none⟩) (cell_lt c0)).trans c0, (hb2.cell (p := ⟨q, off + k * 2 + 1, none⟩) (cell_lt c1)).trans c1⟩))
                      (first | (go_at_call 32; refine (rToken_is HZ1.out HT).mono ?_; rintro e w1 ⟨rfl, rfl⟩) | (go_at_call 21; refine (rLower9_is HZ4.out HLX).mono ?_; rintro e w2 ⟨rfl, hb2⟩) | (go_at_call 33; refine (rText9_is HZ2.out HTX).mono ?_; rintro e w3 ⟨rfl, rfl⟩)))
                    | fail
                  all_goals
                    go_wp2
                    go_ret
                    exact ⟨rfl, BL.out.trans ((Below.refl _ _).drew.trans (hb2.mono BL.out.size))⟩
                · have HTX := box htx
                  have HO : Box (∀ p ∈ L.take (k + 1), okB9 p) := box (by
                    intro p hp
                    rw [take_next hlt, List.mem_append, List.mem_singleton] at hp
                    rcases hp with hp | rfl
                    · exact HA.out p hp
                    · exact ⟨HT.out, hlow, htx⟩)
                  clear htx hlow hlx
                  go_wp2
                  first
                    | (go_region_held3 (fun w' => w'.cell? ⟨q, off + k * 2, none⟩ = some (.string L[k].1) ∧ w'.cell? ⟨q, off + k * 2 + 1, none⟩ = some (.string L[k].2))
                      (first | exact ⟨c0, c1⟩ | (exact ⟨(hb2.cell (p := ⟨q, off + k * 2, none⟩) (cell_lt c0)).trans c0, (hb2.cell (p := ⟨q, off + k * 2 + 1, none⟩) (cell_lt c1)).trans c1⟩))
                      (first | (go_at_call 32; refine (rToken_is HZ1.out HT).mono ?_; rintro e w1 ⟨rfl, rfl⟩) | (go_at_call 21; refine (rLower9_is HZ4.out HLX).mono ?_; rintro e w2 ⟨rfl, hb2⟩) | (go_at_call 33; refine (rText9_is HZ2.out HTX).mono ?_; rintro e w3 ⟨rfl, rfl⟩)))
                    | fail
                  all_goals
                    go_wp2
                    go_roundw
                    case rel => exact ⟨k + 1, by go_num, by omega, HO.out, BL.out.trans ((Below.refl _ _).drew.trans (hb2.mono BL.out.size))⟩
                    case measure => simp [intOf]; omega
          · have HA2 : ∀ p ∈ L, okB9 p := by
              have := HA.out
              rwa [List.take_of_length_le (by omega)] at this
            have hl6 : Box (L.length ≤ 65536) := box (by omega)
            have hz6 : Box (∀ i (hi : i < L.length), L[i].1.size ≤ 65536 ∧ L[i].2.size ≤ 65536) := box (fun i hi => by have := HSM.out i hi; omega)
            obtain ⟨x, hx⟩ : ∃ x, fmtPB v L = x := ⟨_, rfl⟩
            have HX := box hx
            have hpb := par_back HTV.out HA2
            have HP : Box (parA x.data.toList = v ∧ parB x.data.toList = L ∧ parO x.data.toList = true) := box (by
              rw [← hx]
              unfold fmtPB parA parB parO
              rw [bs_toList, hpb]
              exact ⟨rfl, rfl, rfl⟩)
            have hv6 : v.size ≤ 65536 := by omega
            have hxz : x.size ≤ 65000 := by
              rw [← hx]
              unfold fmtPB
              rw [bs_size]
              have hlen : ∀ M : List F, (∀ p ∈ M, p.1.size ≤ 100 ∧ p.2.size ≤ 100) → (M.flatMap fun p => 59 :: oneP p).length ≤ 400 * M.length := by
                intro M
                induction M with
                | nil => intro _; simp
                | cons p M ih =>
                  intro hM
                  have h1 := ih (fun q hq => hM q (by simp [hq]))
                  have h2 := hM p (by simp)
                  have h3 := val_len p.2.data.toList
                  have e1 : p.1.data.toList.length = p.1.size := by simp
                  have e2 : p.2.data.toList.length = p.2.size := by simp
                  have e3 : (oneP p).length = p.1.data.toList.length + ((valP p.2.data.toList).length + 1) := by unfold oneP; rw [List.length_append, List.length_cons]
                  simp only [List.flatMap_cons, List.length_append, List.length_cons]
                  omega
              have hM := hlen L (fun p hp => by
                obtain ⟨i, hi, rfl⟩ := List.mem_iff_getElem.mp hp
                exact HSM.out i hi)
              have e1 : v.data.toList.length = v.size := by simp
              unfold fmtPL
              rw [List.length_append]; omega
            clear hpb HA2 hx
            go_wp2_with fail
            refine (mFmt9_is (L := L) (box rfl) hv6 hl6 hz6 F1.out HX).mono ?_; rintro e w2 ⟨rfl, hb2⟩
            have B2 := box (BL.out.trans (hb2.mono BL.out.size))
            have F2 := box (F1.out.below hb2)
            clear hb2
            go_wp2_with fail
            refine (mPar_is hxz HP).mono ?_; rintro e w3 ⟨a3, cap3, rfl, hS3, hc3, hb3⟩
            have S3 := box hS3
            have F3 := box (F2.out.below hb3)
            have B3 := box (B2.out.trans (hb3.mono B2.out.size))
            clear hS3 hb3
            go_wp2_with fail
            refine (sameP_is (K := L) (L := L) (q := true) (box rfl) (box rfl) hl6 hl6 F3.out S3.out (box (by simp))).mono ?_; rintro e w4 ⟨rfl, hb4⟩
            have B4 := box (B3.out.trans (hb4.mono B3.out.size))
            clear hb4
            go_wp2_with fail
            refine (awake9_any _).mono ?_; rintro e w5 ⟨rfl, hb5⟩
            have B5 := box (B4.out.trans (hb5.mono B4.out.size))
            clear hb5
            go_wp2
            go_ret
            exact ⟨rfl, B5.out⟩
end
section
open Go.RowKit
theorem rText_is9 {s : ByteArray} {b : Bool} {w : World} (hs : s.size ≤ maxLen) (h : Box (textL s.data.toList = b)) :
    Calls Try.prog 33 #[.string s] w fun e w' => e = .returned (.bool b) ∧ w = w' :=
  (rText_any s w hs).mono fun e w' ⟨h1, h2⟩ => ⟨by rw [h1, h.out], h2⟩
theorem plus_run (a b : ByteArray) (h : a.size + b.size ≤ 9223372036854775807) : ∀ w, (Op.stringOp .add a b).run Try.prog w = .ok (.string (a ++ b)) w := fun w => run_string_add_sum w _ _ h
set_option maxHeartbeats 4000000 in
theorem blanks9_walk (v n t : ByteArray) (w : World) (S : v.size ≤ maxLen) (M : n.size ≤ maxLen) (T : t.size ≤ maxLen) :
    Calls Try.prog 10 #[.string v, .string n, .string t] w fun e w' => e = .returned (.bool true) ∧ Below w.heap.size w w' := by
  have HS := box S
  have HM := box M
  have HT := box T
  unfold maxLen at S M T
  by_cases h1 : 100 < v.size
  · have i1 : (100 : Int) < (v.size : Int) := by omega
    go_enter Try.func10, Try.ntmps10
    go_wp2
    go_ret
    exact ⟨rfl, Below.refl _ _⟩
  have i1 : ¬ (100 : Int) < (v.size : Int) := by omega
  by_cases h2 : 100 < n.size
  · have i2 : (100 : Int) < (n.size : Int) := by omega
    go_enter Try.func10, Try.ntmps10
    go_wp2
    go_ret
    exact ⟨rfl, Below.refl _ _⟩
  have i2 : ¬ (100 : Int) < (n.size : Int) := by omega
  by_cases h3 : 100 < t.size
  · have i3 : (100 : Int) < (t.size : Int) := by omega
    go_enter Try.func10, Try.ntmps10
    go_wp2
    go_ret
    exact ⟨rfl, Below.refl _ _⟩
  have i3 : ¬ (100 : Int) < (t.size : Int) := by omega
  rcases htv : tokL v.data.toList with _ | _
  · have HTV := box htv
    clear htv
    go_enter Try.func10, Try.ntmps10
    go_wp2_with fail
    refine (rToken_is HS.out HTV).mono ?_; rintro e w1 ⟨rfl, rfl⟩
    go_wp2
    go_ret
    exact ⟨rfl, Below.refl _ _⟩
  rcases htn : tokL n.data.toList with _ | _
  · have HTV := box htv
    have HTN := box htn
    clear htv htn
    go_enter Try.func10, Try.ntmps10
    go_wp2_with fail
    refine (rToken_is HS.out HTV).mono ?_; rintro e w1 ⟨rfl, rfl⟩
    go_wp2_with fail
    refine (rToken_is HM.out HTN).mono ?_; rintro e w1 ⟨rfl, rfl⟩
    go_wp2
    go_ret
    exact ⟨rfl, Below.refl _ _⟩
  rcases htt : textL t.data.toList with _ | _
  · have HTV := box htv
    have HTN := box htn
    have HTT := box htt
    clear htv htn htt
    go_enter Try.func10, Try.ntmps10
    go_wp2_with fail
    refine (rToken_is HS.out HTV).mono ?_; rintro e w1 ⟨rfl, rfl⟩
    go_wp2_with fail
    refine (rToken_is HM.out HTN).mono ?_; rintro e w1 ⟨rfl, rfl⟩
    go_wp2_with fail
    refine (rText_is9 HT.out HTT).mono ?_; rintro e w1 ⟨rfl, rfl⟩
    go_wp2
    go_ret
    exact ⟨rfl, Below.refl _ _⟩
  have HTV := box htv
  have HTN := box htn
  have HTT := box htt
  obtain ⟨b1, b2⟩ := par_blanks htv htn htt
  clear htv htn htt
  obtain ⟨q, hq⟩ : ∃ q, bs (quoteL t.data.toList) = q := ⟨_, rfl⟩
  have HQ := box hq
  have hqz : q.size ≤ 202 := by
    rw [← hq, bs_size]
    have := escL_len t.data.toList
    have e2 : t.data.toList.length = t.size := by simp
    unfold quoteL
    simp only [List.length_cons, List.length_append, List.length_nil]; omega
  have hqd : q.data.toList = quoteL t.data.toList := by rw [← hq]; rfl
  clear hq
  have hn1 : (n ++ (⟨#[61]⟩ : ByteArray)).size = n.size + 1 := by rw [ByteArray.size_append]; rfl
  obtain ⟨p, hp⟩ : ∃ p, n ++ (⟨#[61]⟩ : ByteArray) ++ q = p := ⟨_, rfl⟩
  have hpz : p.size ≤ 303 := by rw [← hp, ByteArray.size_append, hn1]; omega
  have hpd : p.data.toList = n.data.toList ++ 61 :: quoteL t.data.toList := by rw [← hp]; simp [ByteArray.data_append, hqd]
  have r1 := plus_run n ⟨#[61]⟩ (by show n.size + 1 ≤ _; omega)
  have r2 := plus_run (n ++ (⟨#[61]⟩ : ByteArray)) q (by rw [hn1]; omega)
  rw [hp] at r2
  -- value;p;p
  obtain ⟨x1, hx1⟩ : ∃ x, v ++ (⟨#[59]⟩ : ByteArray) = x := ⟨_, rfl⟩
  have x1z : x1.size ≤ 101 := by rw [← hx1, ByteArray.size_append]; show v.size + 1 ≤ _; omega
  have r3 := plus_run v ⟨#[59]⟩ (by show v.size + 1 ≤ _; omega)
  rw [hx1] at r3
  obtain ⟨x2, hx2⟩ : ∃ x, x1 ++ p = x := ⟨_, rfl⟩
  have x2z : x2.size ≤ 404 := by rw [← hx2, ByteArray.size_append]; omega
  have r4 := plus_run x1 p (by omega)
  rw [hx2] at r4
  obtain ⟨x3, hx3⟩ : ∃ x, x2 ++ (⟨#[59]⟩ : ByteArray) = x := ⟨_, rfl⟩
  have x3z : x3.size ≤ 405 := by rw [← hx3, ByteArray.size_append]; show x2.size + 1 ≤ _; omega
  have r5 := plus_run x2 ⟨#[59]⟩ (by show x2.size + 1 ≤ _; omega)
  rw [hx3] at r5
  obtain ⟨x4, hx4⟩ : ∃ x, x3 ++ p = x := ⟨_, rfl⟩
  have x4z : x4.size ≤ 708 := by rw [← hx4, ByteArray.size_append]; omega
  have r6 := plus_run x3 p (by omega)
  rw [hx4] at r6
  -- " " + value + "\t; ;\t" + p + " ;;" + p + "; "
  obtain ⟨y1, hy1⟩ : ∃ x, (⟨#[32]⟩ : ByteArray) ++ v = x := ⟨_, rfl⟩
  have y1z : y1.size ≤ 101 := by rw [← hy1, ByteArray.size_append]; show 1 + v.size ≤ _; omega
  have s1 := plus_run ⟨#[32]⟩ v (by show 1 + v.size ≤ _; omega)
  rw [hy1] at s1
  obtain ⟨y2, hy2⟩ : ∃ x, y1 ++ (⟨#[9, 59, 32, 59, 9]⟩ : ByteArray) = x := ⟨_, rfl⟩
  have y2z : y2.size ≤ 106 := by rw [← hy2, ByteArray.size_append]; show y1.size + 5 ≤ _; omega
  have s2 := plus_run y1 ⟨#[9, 59, 32, 59, 9]⟩ (by show y1.size + 5 ≤ _; omega)
  rw [hy2] at s2
  obtain ⟨y3, hy3⟩ : ∃ x, y2 ++ p = x := ⟨_, rfl⟩
  have y3z : y3.size ≤ 409 := by rw [← hy3, ByteArray.size_append]; omega
  have s3 := plus_run y2 p (by omega)
  rw [hy3] at s3
  obtain ⟨y4, hy4⟩ : ∃ x, y3 ++ (⟨#[32, 59, 59]⟩ : ByteArray) = x := ⟨_, rfl⟩
  have y4z : y4.size ≤ 412 := by rw [← hy4, ByteArray.size_append]; show y3.size + 3 ≤ _; omega
  have s4 := plus_run y3 ⟨#[32, 59, 59]⟩ (by show y3.size + 3 ≤ _; omega)
  rw [hy4] at s4
  obtain ⟨y5, hy5⟩ : ∃ x, y4 ++ p = x := ⟨_, rfl⟩
  have y5z : y5.size ≤ 715 := by rw [← hy5, ByteArray.size_append]; omega
  have s5 := plus_run y4 p (by omega)
  rw [hy5] at s5
  obtain ⟨y6, hy6⟩ : ∃ x, y5 ++ (⟨#[59, 32]⟩ : ByteArray) = x := ⟨_, rfl⟩
  have y6z : y6.size ≤ 717 := by rw [← hy6, ByteArray.size_append]; show y5.size + 2 ≤ _; omega
  have s6 := plus_run y5 ⟨#[59, 32]⟩ (by show y5.size + 2 ≤ _; omega)
  rw [hy6] at s6
  obtain ⟨K, hK⟩ : ∃ K, [(bs (lowL n.data.toList), bs t.data.toList), (bs (lowL n.data.toList), bs t.data.toList)] = K := ⟨_, rfl⟩
  have hkl : K.length = 2 := by rw [← hK]; rfl
  have H1 : Box (parA x4.data.toList = v ∧ parB x4.data.toList = K ∧ parO x4.data.toList = true) := box (by
    have e : x4.data.toList = v.data.toList ++ 59 :: ((n.data.toList ++ 61 :: quoteL t.data.toList) ++ 59 :: (n.data.toList ++ 61 :: quoteL t.data.toList)) := by
      rw [← hx4, ← hx3, ← hx2, ← hx1]; simp [ByteArray.data_append, hpd]
    unfold parA parB parO
    rw [e, b1, ← hK]; exact ⟨rfl, rfl, rfl⟩)
  have H2 : Box (parA y6.data.toList = v ∧ parB y6.data.toList = K ∧ parO y6.data.toList = true) := box (by
    have e : y6.data.toList = ([32] ++ (v.data.toList ++ [9])) ++ 59 :: ([32] ++ 59 :: (([9] ++ ((n.data.toList ++ 61 :: quoteL t.data.toList) ++ [32])) ++ 59 :: ([] ++ 59 :: ((n.data.toList ++ 61 :: quoteL t.data.toList) ++ 59 :: [32])))) := by
      rw [← hy6, ← hy5, ← hy4, ← hy3, ← hy2, ← hy1]; simp [ByteArray.data_append, hpd]
    unfold parA parB parO
    rw [e, b2, ← hK]; exact ⟨rfl, rfl, rfl⟩)
  have hk6 : Box (K.length ≤ 65536) := box (by omega)
  have hkn : Box (K.length = 2) := box hkl
  have hx6 : x4.size ≤ 65000 := by omega
  have hy7 : y6.size ≤ 65000 := by omega
  have ht4 : t.size ≤ 1073741824 := by omega
  clear hK b1 b2 hpd hqd hp hx1 hx2 hx3 hx4 hy1 hy2 hy3 hy4 hy5 hy6 x1z x2z x3z x4z y1z y2z y3z y4z y5z y6z hpz hqz hn1 h1 h2 h3 hkl
  go_enter Try.func10, Try.ntmps10
  go_wp2_with fail
  refine (rToken_is HS.out HTV).mono ?_; rintro e w1 ⟨rfl, rfl⟩
  go_wp2_with fail
  refine (rToken_is HM.out HTN).mono ?_; rintro e w1 ⟨rfl, rfl⟩
  go_wp2_with fail
  refine (rText_is9 HT.out HTT).mono ?_; rintro e w1 ⟨rfl, rfl⟩
  go_wp2_with fail
  refine (rQuote_is ht4 HQ).mono ?_; rintro e w1 ⟨rfl, hb1⟩
  have B1 := box hb1
  clear hb1
  go_wp2_with fail
  refine (mPar_is hx6 H1).mono ?_; rintro e w2 ⟨a2, cap2, rfl, hS2, hc2, hb2⟩
  have S2 := box hS2
  have B2 := box (B1.out.trans (hb2.mono B1.out.size))
  clear hS2 hb2
  rw [hkn.out]
  go_wp2_with fail
  refine (mPar_is hy7 H2).mono ?_; rintro e w3 ⟨a3, cap3, rfl, hS3, hc3, hb3⟩
  have S3 := box hS3
  have T3 := box (S2.out.below hb3)
  have B3 := box (B2.out.trans (hb3.mono B2.out.size))
  clear hS3 hb3
  rw [hkn.out]
  go_wp2_with fail
  refine (sameP_is (K := K) (L := K) (q := true) hkn hkn hk6 hk6 T3.out S3.out (box (by simp))).mono ?_; rintro e w4 ⟨rfl, hb4⟩
  have B4 := box (B3.out.trans (hb4.mono B3.out.size))
  clear hb4
  go_wp2_with fail
  refine (awake9_any _).mono ?_; rintro e w5 ⟨rfl, hb5⟩
  have B5 := box (B4.out.trans (hb5.mono B4.out.size))
  clear hb5
  go_wp2
  go_ret
  exact ⟨rfl, B5.out⟩
end
end Go.Proofs.Ytfpeaakdjihajaa.Asc
