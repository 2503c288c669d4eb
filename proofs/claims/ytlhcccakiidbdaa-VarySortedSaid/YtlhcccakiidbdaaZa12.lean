/- Merged texts: VryLaws4. -/
import Derived.Test.YtlhcccakiidbdaaZa04
import Derived.Test.YtlhcccakiidbdaaZa11
set_option linter.unusedVariables false
set_option linter.unusedSimpArgs false
set_option maxRecDepth 100000
namespace Go.Proofs.Ytlhcccakiidbdaa.Asc
section
open Go.RowKit
theorem rFold19_is {a b : ByteArray} {q : Bool} {w : World} (ha : a.size ≤ 65536) (hb : b.size ≤ 65536) (h : Box (foldL a.data.toList b.data.toList = q)) :
    Calls Try.prog 23 #[.string a, .string b] w fun e w' => e = .returned (.bool q) ∧ Below w.heap.size w w' :=
  (rFold_any a b w (by omega) (by omega)).mono fun e w' ⟨h1, h2⟩ => ⟨by rw [h1, h.out], h2⟩
/-- what the law asks of the names -/
def UpR (R : List ByteArray) : Prop := (∀ i (hi : i < R.length), R[i].size ≤ 65000 ∧ bs (lowL R[i].data.toList) = R[i] ∧ tokL R[i].data.toList = true) ∧ (∀ i (hi : i + 1 < R.length), R[i].data.toList < R[i + 1].data.toList)
theorem nms_up {L : List F} (hv : ∀ x ∈ getL nmVry L, x.size ≤ 65000) (ho : namesO L = true) : UpR (nmsB L) := by
  have ho' : okU (allL nmVry L) = true := ho
  rw [nmsB_yes ho']
  have hmem : ∀ i (hi : i < (namB (allL nmVry L)).length), ∃ z ∈ namesU (allL nmVry L), (namB (allL nmVry L))[i].data.toList = z := fun i hi =>
    ⟨_, List.getElem_mem (by unfold namB at hi; rwa [List.length_map] at hi), namB_at hi⟩
  refine ⟨fun i hi => ?_, fun i hi => ?_⟩
  · obtain ⟨z, hz, e⟩ := hmem i hi
    have e2 : (namB (allL nmVry L))[i] = bs z := by rw [← e]; rfl
    refine ⟨?_, by rw [e2, bs_toList, names_low z hz], by rw [e]; exact names_tok ho' z hz⟩
    rw [e2, bs_size]
    obtain ⟨m, hm, rfl⟩ := namesU_mem.1 hz
    obtain ⟨x, hx, hle⟩ := all_mem hm
    have := hv x hx
    rw [lowL_length]; omega
  · rw [namB_at hi, namB_at (show i < (namB (allL nmVry L)).length by omega)]
    exact names_up (by unfold namB at hi; rwa [List.length_map] at hi)
theorem nms_has {L : List F} (ho : namesO L = true) {x : ByteArray} (hx : x ∈ allB nmVry L) : ((nmsB L).any fun z => foldL x.data.toList z.data.toList) = true := by
  have ho' : okU (allL nmVry L) = true := ho
  rw [nmsB_yes ho']
  unfold allB at hx
  obtain ⟨m, hm, rfl⟩ := List.mem_map.1 hx
  obtain ⟨z, hz, hf⟩ := names_has hm
  rw [List.any_eq_true]
  exact ⟨bs z, List.mem_map.2 ⟨z, hz, rfl⟩, hf⟩
theorem nms_count {L : List F} : (nmsB L).length ≤ (allB nmVry L).length := by
  unfold nmsB namesV allB
  rw [List.length_map, List.length_map]
  split
  · exact namesU_len _
  · exact Nat.zero_le _
theorem nms_none {L : List F} (ho : namesO L = false) : nmsB L = [] := nmsB_no ho
def FnRel (x : ByteArray) (R : List ByteArray) (W : World) (v i : Value) (wr : World) : Prop :=
  ∃ j : Nat, i = .int .i64 j ∧ j ≤ R.length ∧ v = .bool ((R.take j).any fun z => foldL x.data.toList z.data.toList) ∧ Box (Below W.heap.size W wr)
theorem any_more19 {x : ByteArray} {R : List ByteArray} {j : Nat} (h : j < R.length) : ((R.take (j + 1)).any fun z => foldL x.data.toList z.data.toList) = (((R.take j).any fun z => foldL x.data.toList z.data.toList) || foldL x.data.toList R[j].data.toList) := by
  rw [List.take_succ_eq_append_getElem h, List.any_append, List.any_cons, List.any_nil, Bool.or_false]
set_option maxHeartbeats 8000000 in
theorem sorted19_in (a : Option Addr) (cap n : Nat) (L : List F) (w : World) (HLL : Box (L.length ≤ maxLen)) (HF : Box (Fs w a L)) (HN : Box (L.length = n)) :
    Calls Try.prog 6 #[.slice a n cap] w fun e w' => e = .returned (.bool true) ∧ Below w.heap.size w w' := by
  obtain ⟨q, hq⟩ : ∃ q, keepF L = q := ⟨_, rfl⟩
  have HQ := box hq
  cases q with
  | false =>
    clear hq
    go_enter Try.func6, Try.ntmps6
    go_wp2_with fail
    refine (keepF19_is HLL.out HF.out HQ HN).mono ?_; rintro e w1 ⟨rfl, rfl⟩
    go_wp2
    go_ret
    exact ⟨rfl, Below.refl _ _⟩
  | true =>
    have S := box (keep_sm19 hq).1
    have V := box (keep_sm19 hq).2
    clear hq
    obtain ⟨o, ho⟩ : ∃ o, namesO L = o := ⟨_, rfl⟩
    have HO := box ho
    obtain ⟨R, hR⟩ : ∃ R, nmsB L = R := ⟨_, rfl⟩
    have HR := box hR
    obtain ⟨m, hm⟩ : ∃ m, R.length = m := ⟨_, rfl⟩
    have HM := box hm
    cases o with
    | false =>
      have hm0 : m = 0 := by rw [← hm, ← hR, nms_none ho]; rfl
      subst hm0
      clear ho hR hm
      go_enter Try.func6, Try.ntmps6
      go_wp2_with fail
      refine (keepF19_is HLL.out HF.out HQ HN).mono ?_; rintro e w1 ⟨rfl, rfl⟩
      go_wp2_with fail
      refine (mNames19_is S V HF.out HN HR HM HO).mono ?_; rintro e w2 ⟨p2, c2, rfl, hS2, hb2⟩
      have B2 := box hb2
      clear hb2 hS2
      go_wp2_with fail
      refine (awake19_any _).mono ?_; rintro e w7 ⟨rfl, hb7⟩
      have B7 := box (B2.out.trans (hb7.mono B2.out.size))
      clear hb7
      go_wp2
      go_ret
      exact ⟨rfl, B7.out⟩
    | true =>
      have UP := box (show UpR R from by rw [← hR]; exact nms_up (V.out nmVry) ho)
      have HAS := box (show ∀ x ∈ allB nmVry L, (R.any fun z => foldL x.data.toList z.data.toList) = true from fun x hx => by rw [← hR]; exact nms_has ho hx)
      obtain ⟨l, hl⟩ : ∃ l, (allB nmVry L).length = l := ⟨_, rfl⟩
      have HL := box hl
      have HZ := box (allB_mem19 (V.out nmVry))
      have HV := box (V.out nmVry)
      have hml : m ≤ l := by rw [← hm, ← hl, ← hR]; exact nms_count
      have hl6 : l ≤ 64 := by rw [← hl]; exact allB_len19
      have hnv : nmVry.size ≤ 65536 := by decide
      clear ho hR hm hl
      go_enter Try.func6, Try.ntmps6
      go_wp2_with fail
      refine (keepF19_is HLL.out HF.out HQ HN).mono ?_; rintro e w1 ⟨rfl, rfl⟩
      go_wp2_with fail
      refine (mNames19_is S V HF.out HN HR HM HO).mono ?_; rintro e w2 ⟨p2, c2, rfl, hS2, hb2⟩
      have B2 := box hb2
      have S2 := box hS2
      have F2 := box (HF.out.below hb2)
      have hs2 := hb2.size
      clear hb2 hS2
      go_wp2
      go_loopw [5] (fun i wr => ∃ k : Nat, i = .int .i64 k ∧ k ≤ m ∧ Box (Below w2.heap.size w2 wr)) (fun i _ => m - (intOf i).toNat)
      case atStart => exact ⟨0, rfl, Nat.zero_le _, box (Below.refl _ _)⟩
      case round =>
        obtain ⟨k, rfl, hk, B3⟩ := hrel
        obtain ⟨ws, rfl⟩ : ∃ ws, ws = wr := ⟨_, rfl⟩
        have hs3 := B3.out.size
        by_cases hkm : k < m
        · have hki : (k : Int) < (m : Int) := by omega
          have hk0 : (0 : Int) ≤ (k : Int) := by omega
          have hkR : k < R.length := by rw [HM.out]; exact hkm
          obtain ⟨x, hx⟩ : ∃ x, R[k] = x := ⟨_, rfl⟩
          have hxz : x.size ≤ 4260000000 := by have := (UP.out.1 k hkR).1; rw [hx] at this; omega
          have hxz2 : x.size ≤ 65000 := by have := (UP.out.1 k hkR).1; rw [hx] at this; exact this
          have HLO : Box (bs (lowL x.data.toList) = x) := box (by have := (UP.out.1 k hkR).2.1; rw [hx] at this; exact this)
          have HTO : Box (tokL x.data.toList = true) := box (by have := (UP.out.1 k hkR).2.2; rw [hx] at this; exact this)
          by_cases hkz : k = 0
          · subst hkz
            obtain ⟨g, off, rfl, c0⟩ := (S2.out.below B3.out) 0 hkR
            rw [hx, Nat.add_zero] at c0
            clear hx hkR
            go_wp2
            refine wp_region_held_drew (S := (fun w' : World => w'.cell? ⟨g, off, none⟩ = some (.string x) ∧ Box (Below w2.heap.size w2 w'))) (by kernel_rfl) ⟨c0, box B3.out.drew⟩ (fun hHeld => ?_)
            refine wpAnyH_take (i := 0) (oi := { dst := some 32, op := Op.move (Operand.tmp 3), type := 24, pos := "law.go:62", after := #[], guard := none }) (v := ?v0z1) rfl (by kernel_rfl) (by kernel_rfl) (by kernel_rfl) (fun _ _ _ h => h) (Or.inl ⟨by rfl, ?y0z1⟩) (by assumption) ?r0z1
            case y0z1 => (intro w hSw; (try dsimp only at hSw); go_simp; first | done | with_reducible rfl)
            try simp only [Act.put, List.setIfInBounds_toArray, List.set_cons_zero, List.set_cons_succ]
            refine wpAnyH_take (i := 1) (oi := { dst := some 33, op := Op.move (Operand.tmp 5), type := 3, pos := "law.go:62", after := #[], guard := none }) (v := ?v1z1) rfl (by kernel_rfl) (by kernel_rfl) (by kernel_rfl) (fun _ _ _ h => h) (Or.inl ⟨by rfl, ?y1z1⟩) (by assumption) ?r1z1
            case y1z1 => (intro w hSw; (try dsimp only at hSw); go_simp; first | done | with_reducible rfl)
            try simp only [Act.put, List.setIfInBounds_toArray, List.set_cons_zero, List.set_cons_succ]
            refine wpAnyH_take (i := 2) (oi := { dst := some 34, op := Op.indexAddr 24 (Operand.tmp 32) (Operand.tmp 33), type := 0, pos := "law.go:62", after := #[{ on := 0, ground := Ground.data }, { on := 1, ground := Ground.data }], guard := none }) (v := ?v2z1) rfl (by kernel_rfl) (by kernel_rfl) (by kernel_rfl) (fun _ _ _ h => h) (Or.inl ⟨by rfl, ?y2z1⟩) (by assumption) ?r2z1
            case y2z1 => (intro w hSw; (try dsimp only at hSw); go_simp; first | done | with_reducible rfl)
            try simp only [Act.put, List.setIfInBounds_toArray, List.set_cons_zero, List.set_cons_succ]
            refine wpAnyH_take (i := 3) (oi := { dst := some 35, op := Op.load 9 (Operand.tmp 34), type := 9, pos := "law.go:62", after := #[{ on := 2, ground := Ground.data }], guard := none }) (v := ?v3z1) rfl (by kernel_rfl) (by kernel_rfl) (by kernel_rfl) (fun _ _ _ h => h) (Or.inl ⟨by rfl, ?y3z1⟩) (by assumption) ?r3z1
            case y3z1 => (intro w hSw; (try dsimp only at hSw); go_simp; first | done | with_reducible rfl)
            try simp only [Act.put, List.setIfInBounds_toArray, List.set_cons_zero, List.set_cons_succ]
            refine wpAnyH_take (i := 5) (oi := { dst := some 37, op := Op.move (Operand.tmp 3), type := 24, pos := "law.go:62", after := #[], guard := none }) (v := ?v5z1) rfl (by kernel_rfl) (by kernel_rfl) (by kernel_rfl) (fun _ _ _ h => h) (Or.inl ⟨by rfl, ?y5z1⟩) (by assumption) ?r5z1
            case y5z1 => (intro w hSw; (try dsimp only at hSw); go_simp; first | done | with_reducible rfl)
            try simp only [Act.put, List.setIfInBounds_toArray, List.set_cons_zero, List.set_cons_succ]
            refine wpAnyH_take (i := 6) (oi := { dst := some 38, op := Op.move (Operand.tmp 5), type := 3, pos := "law.go:62", after := #[], guard := none }) (v := ?v6z1) rfl (by kernel_rfl) (by kernel_rfl) (by kernel_rfl) (fun _ _ _ h => h) (Or.inl ⟨by rfl, ?y6z1⟩) (by assumption) ?r6z1
            case y6z1 => (intro w hSw; (try dsimp only at hSw); go_simp; first | done | with_reducible rfl)
            try simp only [Act.put, List.setIfInBounds_toArray, List.set_cons_zero, List.set_cons_succ]
            refine wpAnyH_take (i := 7) (oi := { dst := some 39, op := Op.indexAddr 24 (Operand.tmp 37) (Operand.tmp 38), type := 0, pos := "law.go:62", after := #[{ on := 5, ground := Ground.data }, { on := 6, ground := Ground.data }], guard := none }) (v := ?v7z1) rfl (by kernel_rfl) (by kernel_rfl) (by kernel_rfl) (fun _ _ _ h => h) (Or.inl ⟨by rfl, ?y7z1⟩) (by assumption) ?r7z1
            case y7z1 => (intro w hSw; (try dsimp only at hSw); go_simp; first | done | with_reducible rfl)
            try simp only [Act.put, List.setIfInBounds_toArray, List.set_cons_zero, List.set_cons_succ]
            refine wpAnyH_take (i := 8) (oi := { dst := some 40, op := Op.load 9 (Operand.tmp 39), type := 9, pos := "law.go:62", after := #[{ on := 7, ground := Ground.data }], guard := none }) (v := ?v8z1) rfl (by kernel_rfl) (by kernel_rfl) (by kernel_rfl) (fun _ _ _ h => h) (Or.inl ⟨by rfl, ?y8z1⟩) (by assumption) ?r8z1
            case y8z1 => (intro w hSw; (try dsimp only at hSw); go_simp; first | done | with_reducible rfl)
            try simp only [Act.put, List.setIfInBounds_toArray, List.set_cons_zero, List.set_cons_succ]
            refine wpAnyH_ready (rs := [4]) (by kernel_rfl) (by simp) ?_
            refine AllReadyH.cons (o := { dst := some 36, op := Op.call { callee := Callee.value (Operand.func 20), args := #[Operand.tmp 35], argTypes := #[9] }, type := 9, pos := "law.go:62", after := #[{ on := 3, ground := Ground.data }], guard := none }) rfl (fun K hK => ?_) AllReadyH.nil
            go_simp
            refine (rLow19_is hxz HLO).mono ?_; rintro e w5 ⟨rfl, hb5⟩
            have B5 := box (hHeld.2.out.trans (hb5.mono hHeld.2.out.size))
            go_wp2_with fail
            refine hK.out _ _ ⟨(hb5.cell (cell_lt hHeld.1)).trans hHeld.1, B5⟩ (fun hHeld => ?_)
            clear hK K
            try simp only [Act.put, List.setIfInBounds_toArray, List.set_cons_zero, List.set_cons_succ]
            refine wpAnyH_take (i := 9) (oi := { dst := some 41, op := Op.binOp BinOp.neq 9 (Operand.tmp 36) (Operand.tmp 40) 9, type := 4, pos := "law.go:62", after := #[{ on := 4, ground := Ground.data }, { on := 8, ground := Ground.data }], guard := none }) (v := ?v9z1) rfl (by kernel_rfl) (by kernel_rfl) (by kernel_rfl) (fun _ _ _ h => h) (Or.inl ⟨by rfl, ?y9z1⟩) (by assumption) ?r9z1
            case y9z1 => (intro w hSw; (try dsimp only at hSw); go_simp; first | done | with_reducible rfl)
            try simp only [Act.put, List.setIfInBounds_toArray, List.set_cons_zero, List.set_cons_succ]
            refine wpAnyH_take (i := 10) (oi := { dst := some 42, op := Op.move (Operand.tmp 41), type := 4, pos := "law.go:62", after := #[{ on := 9, ground := Ground.data }, { on := 4, ground := Ground.chain }], guard := none }) (v := ?v10z1) rfl (by kernel_rfl) (by kernel_rfl) (by kernel_rfl) (fun _ _ _ h => h) (Or.inl ⟨by rfl, ?y10z1⟩) (by assumption) ?r10z1
            case y10z1 => (intro w hSw; (try dsimp only at hSw); go_simp; first | done | with_reducible rfl)
            try simp only [Act.put, List.setIfInBounds_toArray, List.set_cons_zero, List.set_cons_succ]
            refine wpAnyH_take (i := 11) (oi := { dst := some 43, op := Op.move (Operand.tmp 3), type := 24, pos := "law.go:62", after := #[{ on := 10, ground := Ground.guard }], guard := some (10, false) }) (v := ?v11z1) rfl (by kernel_rfl) (by kernel_rfl) (by kernel_rfl) (fun _ _ _ h => h) (Or.inl ⟨by rfl, ?y11z1⟩) (by assumption) ?r11z1
            case y11z1 => (intro w hSw; (try dsimp only at hSw); go_simp; first | done | with_reducible rfl)
            try simp only [Act.put, List.setIfInBounds_toArray, List.set_cons_zero, List.set_cons_succ]
            refine wpAnyH_take (i := 12) (oi := { dst := some 44, op := Op.move (Operand.tmp 5), type := 3, pos := "law.go:62", after := #[{ on := 10, ground := Ground.guard }], guard := some (10, false) }) (v := ?v12z1) rfl (by kernel_rfl) (by kernel_rfl) (by kernel_rfl) (fun _ _ _ h => h) (Or.inl ⟨by rfl, ?y12z1⟩) (by assumption) ?r12z1
            case y12z1 => (intro w hSw; (try dsimp only at hSw); go_simp; first | done | with_reducible rfl)
            try simp only [Act.put, List.setIfInBounds_toArray, List.set_cons_zero, List.set_cons_succ]
            refine wpAnyH_take (i := 13) (oi := { dst := some 45, op := Op.indexAddr 24 (Operand.tmp 43) (Operand.tmp 44), type := 0, pos := "law.go:62", after := #[{ on := 11, ground := Ground.data }, { on := 12, ground := Ground.data }, { on := 10, ground := Ground.guard }], guard := some (10, false) }) (v := ?v13z1) rfl (by kernel_rfl) (by kernel_rfl) (by kernel_rfl) (fun _ _ _ h => h) (Or.inl ⟨by rfl, ?y13z1⟩) (by assumption) ?r13z1
            case y13z1 => (intro w hSw; (try dsimp only at hSw); go_simp; first | done | with_reducible rfl)
            try simp only [Act.put, List.setIfInBounds_toArray, List.set_cons_zero, List.set_cons_succ]
            refine wpAnyH_take (i := 14) (oi := { dst := some 46, op := Op.load 9 (Operand.tmp 45), type := 9, pos := "law.go:62", after := #[{ on := 13, ground := Ground.data }, { on := 10, ground := Ground.guard }], guard := some (10, false) }) (v := ?v14z1) rfl (by kernel_rfl) (by kernel_rfl) (by kernel_rfl) (fun _ _ _ h => h) (Or.inl ⟨by rfl, ?y14z1⟩) (by assumption) ?r14z1
            case y14z1 => (intro w hSw; (try dsimp only at hSw); go_simp; first | done | with_reducible rfl)
            try simp only [Act.put, List.setIfInBounds_toArray, List.set_cons_zero, List.set_cons_succ]
            refine wpAnyH_ready (rs := [15]) (by kernel_rfl) (by simp) ?_
            refine AllReadyH.cons (o := { dst := some 47, op := Op.call { callee := Callee.value (Operand.func 21), args := #[Operand.tmp 46], argTypes := #[9] }, type := 4, pos := "law.go:62", after := #[{ on := 14, ground := Ground.data }, { on := 10, ground := Ground.chain }, { on := 10, ground := Ground.guard }], guard := some (10, false) }) rfl (fun K hK => ?_) AllReadyH.nil
            go_simp
            refine (rTok19_is hxz2 HTO).mono ?_; rintro e w6 ⟨rfl, rfl⟩
            go_wp2_with fail
            refine hK.out _ _ hHeld (fun hHeld => ?_)
            clear hK K
            try simp only [Act.put, List.setIfInBounds_toArray, List.set_cons_zero, List.set_cons_succ]
            refine wpAnyH_take (i := 16) (oi := { dst := some 48, op := Op.unOp UnOp.not 4 (Operand.tmp 47), type := 4, pos := "law.go:62", after := #[{ on := 15, ground := Ground.data }, { on := 10, ground := Ground.guard }], guard := some (10, false) }) (v := ?v16z1) rfl (by kernel_rfl) (by kernel_rfl) (by kernel_rfl) (fun _ _ _ h => h) (Or.inl ⟨by rfl, ?y16z1⟩) (by assumption) ?r16z1
            case y16z1 => (intro w hSw; (try dsimp only at hSw); go_simp; first | done | with_reducible rfl)
            try simp only [Act.put, List.setIfInBounds_toArray, List.set_cons_zero, List.set_cons_succ]
            refine wpAnyH_take (i := 17) (oi := { dst := some 49, op := Op.pick (Operand.tmp 42) (Operand.const (Value.bool true)) (Operand.tmp 48), type := 4, pos := "law.go:62", after := #[{ on := 10, ground := Ground.data }, { on := 16, ground := Ground.data }], guard := none }) (v := ?v17z1) rfl (by kernel_rfl) (by kernel_rfl) (by kernel_rfl) (fun _ _ _ h => h) (Or.inl ⟨by rfl, ?y17z1⟩) (by assumption) ?r17z1
            case y17z1 => (intro w hSw; (try dsimp only at hSw); go_simp; first | done | with_reducible rfl)
            try simp only [Act.put, List.setIfInBounds_toArray, List.set_cons_zero, List.set_cons_succ]
            refine wpAnyH_take (i := 18) (oi := { dst := some 50, op := Op.move (Operand.tmp 49), type := 4, pos := "law.go:62", after := #[{ on := 17, ground := Ground.data }, { on := 15, ground := Ground.chain }], guard := none }) (v := ?v18z1) rfl (by kernel_rfl) (by kernel_rfl) (by kernel_rfl) (fun _ _ _ h => h) (Or.inl ⟨by rfl, ?y18z1⟩) (by assumption) ?r18z1
            case y18z1 => (intro w hSw; (try dsimp only at hSw); go_simp; first | done | with_reducible rfl)
            try simp only [Act.put, List.setIfInBounds_toArray, List.set_cons_zero, List.set_cons_succ]
            refine wpAnyH_take (i := 19) (oi := { dst := some 51, op := Op.move (Operand.tmp 5), type := 3, pos := "law.go:62", after := #[{ on := 18, ground := Ground.guard }], guard := some (18, false) }) (v := ?v19z1) rfl (by kernel_rfl) (by kernel_rfl) (by kernel_rfl) (fun _ _ _ h => h) (Or.inl ⟨by rfl, ?y19z1⟩) (by assumption) ?r19z1
            case y19z1 => (intro w hSw; (try dsimp only at hSw); go_simp; first | done | with_reducible rfl)
            try simp only [Act.put, List.setIfInBounds_toArray, List.set_cons_zero, List.set_cons_succ]
            refine wpAnyH_take (i := 20) (oi := { dst := some 52, op := Op.binOp BinOp.gtr 3 (Operand.tmp 51) (Operand.const (Value.int IntKind.i64 0)) 3, type := 4, pos := "law.go:62", after := #[{ on := 19, ground := Ground.data }, { on := 18, ground := Ground.guard }], guard := some (18, false) }) (v := ?v20z1) rfl (by kernel_rfl) (by kernel_rfl) (by kernel_rfl) (fun _ _ _ h => h) (Or.inl ⟨by rfl, ?y20z1⟩) (by assumption) ?r20z1
            case y20z1 => (intro w hSw; (try dsimp only at hSw); go_simp; first | done | with_reducible rfl)
            try simp only [Act.put, List.setIfInBounds_toArray, List.set_cons_zero, List.set_cons_succ]
            refine wpAnyH_take (i := 21) (oi := { dst := some 53, op := Op.move (Operand.tmp 52), type := 4, pos := "law.go:62", after := #[{ on := 20, ground := Ground.data }, { on := 18, ground := Ground.chain }, { on := 18, ground := Ground.guard }], guard := some (18, false) }) (v := ?v21z1) rfl (by kernel_rfl) (by kernel_rfl) (by kernel_rfl) (fun _ _ _ h => h) (Or.inl ⟨by rfl, ?y21z1⟩) (by assumption) ?r21z1
            case y21z1 => (intro w hSw; (try dsimp only at hSw); go_simp; first | done | with_reducible rfl)
            try simp only [Act.put, List.setIfInBounds_toArray, List.set_cons_zero, List.set_cons_succ]
            refine wpAnyH_take (i := 22) (oi := { dst := some 54, op := Op.move (Operand.tmp 3), type := 24, pos := "law.go:62", after := #[{ on := 21, ground := Ground.guard }], guard := some (21, true) }) (v := undef) rfl (by kernel_rfl) (by kernel_rfl) (by kernel_rfl) (fun _ _ _ h => h) (Or.inr ⟨by rfl, rfl⟩) (by assumption) ?_
            try simp only [Act.put, List.setIfInBounds_toArray, List.set_cons_zero, List.set_cons_succ]
            refine wpAnyH_take (i := 23) (oi := { dst := some 55, op := Op.move (Operand.tmp 5), type := 3, pos := "law.go:62", after := #[{ on := 21, ground := Ground.guard }], guard := some (21, true) }) (v := undef) rfl (by kernel_rfl) (by kernel_rfl) (by kernel_rfl) (fun _ _ _ h => h) (Or.inr ⟨by rfl, rfl⟩) (by assumption) ?_
            try simp only [Act.put, List.setIfInBounds_toArray, List.set_cons_zero, List.set_cons_succ]
            refine wpAnyH_take (i := 24) (oi := { dst := some 56, op := Op.binOp BinOp.sub 3 (Operand.tmp 55) (Operand.const (Value.int IntKind.i64 1)) 3, type := 3, pos := "law.go:62", after := #[{ on := 23, ground := Ground.data }, { on := 21, ground := Ground.guard }], guard := some (21, true) }) (v := undef) rfl (by kernel_rfl) (by kernel_rfl) (by kernel_rfl) (fun _ _ _ h => h) (Or.inr ⟨by rfl, rfl⟩) (by assumption) ?_
            try simp only [Act.put, List.setIfInBounds_toArray, List.set_cons_zero, List.set_cons_succ]
            refine wpAnyH_take (i := 25) (oi := { dst := some 57, op := Op.indexAddr 24 (Operand.tmp 54) (Operand.tmp 56), type := 0, pos := "law.go:62", after := #[{ on := 22, ground := Ground.data }, { on := 24, ground := Ground.data }, { on := 21, ground := Ground.guard }], guard := some (21, true) }) (v := undef) rfl (by kernel_rfl) (by kernel_rfl) (by kernel_rfl) (fun _ _ _ h => h) (Or.inr ⟨by rfl, rfl⟩) (by assumption) ?_
            try simp only [Act.put, List.setIfInBounds_toArray, List.set_cons_zero, List.set_cons_succ]
            refine wpAnyH_take (i := 26) (oi := { dst := some 58, op := Op.load 9 (Operand.tmp 57), type := 9, pos := "law.go:62", after := #[{ on := 25, ground := Ground.data }, { on := 21, ground := Ground.guard }], guard := some (21, true) }) (v := undef) rfl (by kernel_rfl) (by kernel_rfl) (by kernel_rfl) (fun _ _ _ h => h) (Or.inr ⟨by rfl, rfl⟩) (by assumption) ?_
            try simp only [Act.put, List.setIfInBounds_toArray, List.set_cons_zero, List.set_cons_succ]
            refine wpAnyH_take (i := 27) (oi := { dst := some 59, op := Op.move (Operand.tmp 3), type := 24, pos := "law.go:62", after := #[{ on := 21, ground := Ground.guard }], guard := some (21, true) }) (v := undef) rfl (by kernel_rfl) (by kernel_rfl) (by kernel_rfl) (fun _ _ _ h => h) (Or.inr ⟨by rfl, rfl⟩) (by assumption) ?_
            try simp only [Act.put, List.setIfInBounds_toArray, List.set_cons_zero, List.set_cons_succ]
            refine wpAnyH_take (i := 28) (oi := { dst := some 60, op := Op.move (Operand.tmp 5), type := 3, pos := "law.go:62", after := #[{ on := 21, ground := Ground.guard }], guard := some (21, true) }) (v := undef) rfl (by kernel_rfl) (by kernel_rfl) (by kernel_rfl) (fun _ _ _ h => h) (Or.inr ⟨by rfl, rfl⟩) (by assumption) ?_
            try simp only [Act.put, List.setIfInBounds_toArray, List.set_cons_zero, List.set_cons_succ]
            refine wpAnyH_take (i := 29) (oi := { dst := some 61, op := Op.indexAddr 24 (Operand.tmp 59) (Operand.tmp 60), type := 0, pos := "law.go:62", after := #[{ on := 27, ground := Ground.data }, { on := 28, ground := Ground.data }, { on := 21, ground := Ground.guard }], guard := some (21, true) }) (v := undef) rfl (by kernel_rfl) (by kernel_rfl) (by kernel_rfl) (fun _ _ _ h => h) (Or.inr ⟨by rfl, rfl⟩) (by assumption) ?_
            try simp only [Act.put, List.setIfInBounds_toArray, List.set_cons_zero, List.set_cons_succ]
            refine wpAnyH_take (i := 30) (oi := { dst := some 62, op := Op.load 9 (Operand.tmp 61), type := 9, pos := "law.go:62", after := #[{ on := 29, ground := Ground.data }, { on := 21, ground := Ground.guard }], guard := some (21, true) }) (v := undef) rfl (by kernel_rfl) (by kernel_rfl) (by kernel_rfl) (fun _ _ _ h => h) (Or.inr ⟨by rfl, rfl⟩) (by assumption) ?_
            try simp only [Act.put, List.setIfInBounds_toArray, List.set_cons_zero, List.set_cons_succ]
            refine wpAnyH_take (i := 31) (oi := { dst := some 63, op := Op.binOp BinOp.geq 9 (Operand.tmp 58) (Operand.tmp 62) 9, type := 4, pos := "law.go:62", after := #[{ on := 26, ground := Ground.data }, { on := 30, ground := Ground.data }, { on := 21, ground := Ground.guard }], guard := some (21, true) }) (v := undef) rfl (by kernel_rfl) (by kernel_rfl) (by kernel_rfl) (fun _ _ _ h => h) (Or.inr ⟨by rfl, rfl⟩) (by assumption) ?_
            try simp only [Act.put, List.setIfInBounds_toArray, List.set_cons_zero, List.set_cons_succ]
            refine wpAnyH_take (i := 32) (oi := { dst := some 64, op := Op.pick (Operand.tmp 53) (Operand.tmp 63) (Operand.const (Value.bool false)), type := 4, pos := "law.go:62", after := #[{ on := 21, ground := Ground.data }, { on := 31, ground := Ground.data }, { on := 18, ground := Ground.guard }], guard := some (18, false) }) (v := ?v32z1) rfl (by kernel_rfl) (by kernel_rfl) (by kernel_rfl) (fun _ _ _ h => h) (Or.inl ⟨by rfl, ?y32z1⟩) (by assumption) ?r32z1
            case y32z1 => (intro w hSw; (try dsimp only at hSw); go_simp; first | done | with_reducible rfl)
            try simp only [Act.put, List.setIfInBounds_toArray, List.set_cons_zero, List.set_cons_succ]
            refine wpAnyH_take (i := 33) (oi := { dst := some 65, op := Op.pick (Operand.tmp 50) (Operand.const (Value.bool true)) (Operand.tmp 64), type := 4, pos := "law.go:62", after := #[{ on := 18, ground := Ground.data }, { on := 32, ground := Ground.data }], guard := none }) (v := ?v33z1) rfl (by kernel_rfl) (by kernel_rfl) (by kernel_rfl) (fun _ _ _ h => h) (Or.inl ⟨by rfl, ?y33z1⟩) (by assumption) ?r33z1
            case y33z1 => (intro w hSw; (try dsimp only at hSw); go_simp; first | done | with_reducible rfl)
            try simp only [Act.put, List.setIfInBounds_toArray, List.set_cons_zero, List.set_cons_succ]
            refine wpAnyH_done (by kernel_rfl) ?_ _
            have B6 := hHeld.2
            clear hHeld c0
            go_wp2
            go_roundw
            case rel => exact ⟨1, by go_num, by omega, B6⟩
            case measure => simp [intOf]; omega
          · obtain ⟨j, rfl⟩ : ∃ j, k = j + 1 := ⟨k - 1, by omega⟩
            have hji : (0 : Int) < ((j + 1 : Nat) : Int) := by omega
            have hjR : j < R.length := by omega
            obtain ⟨y, hy⟩ : ∃ y, R[j] = y := ⟨_, rfl⟩
            have hls : Op.bytesLess y.toList x.toList = true := less_is (decide_eq_true (by have := UP.out.2 j hkR; rw [hx, hy] at this; exact this))
            obtain ⟨g, off, rfl, c0⟩ := (S2.out.below B3.out) (j + 1) hkR
            obtain ⟨g', off', e, c1⟩ := (S2.out.below B3.out) j hjR
            injection e with e
            injection e with e4 e5 e6
            subst e4; subst e5
            rw [hx] at c0
            rw [hy] at c1
            have hw1 : IntKind.i64.wrap (j : Int) = (j : Int) := IntWalk.i64_in _ (by omega)
            have hj1 : ((j + 1 : Nat) : Int) - 1 = (j : Int) := by omega
            obtain ⟨i, hi⟩ : ∃ i, j + 1 = i := ⟨_, rfl⟩
            have hin : 0 < j + 1 := Nat.succ_pos j
            rw [hi] at c0 hki hk0 hji hj1 hin ⊢
            have hj0 : (0 : Int) ≤ (j : Int) := by omega
            have hjm : (j : Int) < (m : Int) := by omega
            have HI := box hi
            clear hx hy hkR hjR hi hkz
            go_wp2
            refine wp_region_held_drew (S := (fun w' : World => (w'.cell? ⟨g, off + i, none⟩ = some (.string x) ∧ w'.cell? ⟨g, off + j, none⟩ = some (.string y)) ∧ Box (Below w2.heap.size w2 w'))) (by kernel_rfl) ⟨⟨c0, c1⟩, box B3.out.drew⟩ (fun hHeld => ?_)
            refine wpAnyH_take (i := 0) (oi := { dst := some 32, op := Op.move (Operand.tmp 3), type := 24, pos := "law.go:62", after := #[], guard := none }) (v := ?v0z2) rfl (by kernel_rfl) (by kernel_rfl) (by kernel_rfl) (fun _ _ _ h => h) (Or.inl ⟨by rfl, ?y0z2⟩) (by assumption) ?r0z2
            case y0z2 => (intro w hSw; (try dsimp only at hSw); go_simp; first | done | with_reducible rfl)
            try simp only [Act.put, List.setIfInBounds_toArray, List.set_cons_zero, List.set_cons_succ]
            refine wpAnyH_take (i := 1) (oi := { dst := some 33, op := Op.move (Operand.tmp 5), type := 3, pos := "law.go:62", after := #[], guard := none }) (v := ?v1z2) rfl (by kernel_rfl) (by kernel_rfl) (by kernel_rfl) (fun _ _ _ h => h) (Or.inl ⟨by rfl, ?y1z2⟩) (by assumption) ?r1z2
            case y1z2 => (intro w hSw; (try dsimp only at hSw); go_simp; first | done | with_reducible rfl)
            try simp only [Act.put, List.setIfInBounds_toArray, List.set_cons_zero, List.set_cons_succ]
            refine wpAnyH_take (i := 2) (oi := { dst := some 34, op := Op.indexAddr 24 (Operand.tmp 32) (Operand.tmp 33), type := 0, pos := "law.go:62", after := #[{ on := 0, ground := Ground.data }, { on := 1, ground := Ground.data }], guard := none }) (v := ?v2z2) rfl (by kernel_rfl) (by kernel_rfl) (by kernel_rfl) (fun _ _ _ h => h) (Or.inl ⟨by rfl, ?y2z2⟩) (by assumption) ?r2z2
            case y2z2 => (intro w hSw; (try dsimp only at hSw); go_simp; first | done | with_reducible rfl)
            try simp only [Act.put, List.setIfInBounds_toArray, List.set_cons_zero, List.set_cons_succ]
            refine wpAnyH_take (i := 3) (oi := { dst := some 35, op := Op.load 9 (Operand.tmp 34), type := 9, pos := "law.go:62", after := #[{ on := 2, ground := Ground.data }], guard := none }) (v := ?v3z2) rfl (by kernel_rfl) (by kernel_rfl) (by kernel_rfl) (fun _ _ _ h => h) (Or.inl ⟨by rfl, ?y3z2⟩) (by assumption) ?r3z2
            case y3z2 => (intro w hSw; (try dsimp only at hSw); go_simp; first | done | with_reducible rfl)
            try simp only [Act.put, List.setIfInBounds_toArray, List.set_cons_zero, List.set_cons_succ]
            refine wpAnyH_take (i := 5) (oi := { dst := some 37, op := Op.move (Operand.tmp 3), type := 24, pos := "law.go:62", after := #[], guard := none }) (v := ?v5z2) rfl (by kernel_rfl) (by kernel_rfl) (by kernel_rfl) (fun _ _ _ h => h) (Or.inl ⟨by rfl, ?y5z2⟩) (by assumption) ?r5z2
            case y5z2 => (intro w hSw; (try dsimp only at hSw); go_simp; first | done | with_reducible rfl)
            try simp only [Act.put, List.setIfInBounds_toArray, List.set_cons_zero, List.set_cons_succ]
            refine wpAnyH_take (i := 6) (oi := { dst := some 38, op := Op.move (Operand.tmp 5), type := 3, pos := "law.go:62", after := #[], guard := none }) (v := ?v6z2) rfl (by kernel_rfl) (by kernel_rfl) (by kernel_rfl) (fun _ _ _ h => h) (Or.inl ⟨by rfl, ?y6z2⟩) (by assumption) ?r6z2
            case y6z2 => (intro w hSw; (try dsimp only at hSw); go_simp; first | done | with_reducible rfl)
            try simp only [Act.put, List.setIfInBounds_toArray, List.set_cons_zero, List.set_cons_succ]
            refine wpAnyH_take (i := 7) (oi := { dst := some 39, op := Op.indexAddr 24 (Operand.tmp 37) (Operand.tmp 38), type := 0, pos := "law.go:62", after := #[{ on := 5, ground := Ground.data }, { on := 6, ground := Ground.data }], guard := none }) (v := ?v7z2) rfl (by kernel_rfl) (by kernel_rfl) (by kernel_rfl) (fun _ _ _ h => h) (Or.inl ⟨by rfl, ?y7z2⟩) (by assumption) ?r7z2
            case y7z2 => (intro w hSw; (try dsimp only at hSw); go_simp; first | done | with_reducible rfl)
            try simp only [Act.put, List.setIfInBounds_toArray, List.set_cons_zero, List.set_cons_succ]
            refine wpAnyH_take (i := 8) (oi := { dst := some 40, op := Op.load 9 (Operand.tmp 39), type := 9, pos := "law.go:62", after := #[{ on := 7, ground := Ground.data }], guard := none }) (v := ?v8z2) rfl (by kernel_rfl) (by kernel_rfl) (by kernel_rfl) (fun _ _ _ h => h) (Or.inl ⟨by rfl, ?y8z2⟩) (by assumption) ?r8z2
            case y8z2 => (intro w hSw; (try dsimp only at hSw); go_simp; first | done | with_reducible rfl)
            try simp only [Act.put, List.setIfInBounds_toArray, List.set_cons_zero, List.set_cons_succ]
            refine wpAnyH_ready (rs := [4]) (by kernel_rfl) (by simp) ?_
            refine AllReadyH.cons (o := { dst := some 36, op := Op.call { callee := Callee.value (Operand.func 20), args := #[Operand.tmp 35], argTypes := #[9] }, type := 9, pos := "law.go:62", after := #[{ on := 3, ground := Ground.data }], guard := none }) rfl (fun K hK => ?_) AllReadyH.nil
            go_simp
            refine (rLow19_is hxz HLO).mono ?_; rintro e w5 ⟨rfl, hb5⟩
            have B5 := box (hHeld.2.out.trans (hb5.mono hHeld.2.out.size))
            go_wp2_with fail
            refine hK.out _ _ ⟨⟨(hb5.cell (cell_lt hHeld.1.1)).trans hHeld.1.1, (hb5.cell (cell_lt hHeld.1.2)).trans hHeld.1.2⟩, B5⟩ (fun hHeld => ?_)
            clear hK K
            try simp only [Act.put, List.setIfInBounds_toArray, List.set_cons_zero, List.set_cons_succ]
            refine wpAnyH_take (i := 9) (oi := { dst := some 41, op := Op.binOp BinOp.neq 9 (Operand.tmp 36) (Operand.tmp 40) 9, type := 4, pos := "law.go:62", after := #[{ on := 4, ground := Ground.data }, { on := 8, ground := Ground.data }], guard := none }) (v := ?v9z2) rfl (by kernel_rfl) (by kernel_rfl) (by kernel_rfl) (fun _ _ _ h => h) (Or.inl ⟨by rfl, ?y9z2⟩) (by assumption) ?r9z2
            case y9z2 => (intro w hSw; (try dsimp only at hSw); go_simp; first | done | with_reducible rfl)
            try simp only [Act.put, List.setIfInBounds_toArray, List.set_cons_zero, List.set_cons_succ]
            refine wpAnyH_take (i := 10) (oi := { dst := some 42, op := Op.move (Operand.tmp 41), type := 4, pos := "law.go:62", after := #[{ on := 9, ground := Ground.data }, { on := 4, ground := Ground.chain }], guard := none }) (v := ?v10z2) rfl (by kernel_rfl) (by kernel_rfl) (by kernel_rfl) (fun _ _ _ h => h) (Or.inl ⟨by rfl, ?y10z2⟩) (by assumption) ?r10z2
            case y10z2 => (intro w hSw; (try dsimp only at hSw); go_simp; first | done | with_reducible rfl)
            try simp only [Act.put, List.setIfInBounds_toArray, List.set_cons_zero, List.set_cons_succ]
            refine wpAnyH_take (i := 11) (oi := { dst := some 43, op := Op.move (Operand.tmp 3), type := 24, pos := "law.go:62", after := #[{ on := 10, ground := Ground.guard }], guard := some (10, false) }) (v := ?v11z2) rfl (by kernel_rfl) (by kernel_rfl) (by kernel_rfl) (fun _ _ _ h => h) (Or.inl ⟨by rfl, ?y11z2⟩) (by assumption) ?r11z2
            case y11z2 => (intro w hSw; (try dsimp only at hSw); go_simp; first | done | with_reducible rfl)
            try simp only [Act.put, List.setIfInBounds_toArray, List.set_cons_zero, List.set_cons_succ]
            refine wpAnyH_take (i := 12) (oi := { dst := some 44, op := Op.move (Operand.tmp 5), type := 3, pos := "law.go:62", after := #[{ on := 10, ground := Ground.guard }], guard := some (10, false) }) (v := ?v12z2) rfl (by kernel_rfl) (by kernel_rfl) (by kernel_rfl) (fun _ _ _ h => h) (Or.inl ⟨by rfl, ?y12z2⟩) (by assumption) ?r12z2
            case y12z2 => (intro w hSw; (try dsimp only at hSw); go_simp; first | done | with_reducible rfl)
            try simp only [Act.put, List.setIfInBounds_toArray, List.set_cons_zero, List.set_cons_succ]
            refine wpAnyH_take (i := 13) (oi := { dst := some 45, op := Op.indexAddr 24 (Operand.tmp 43) (Operand.tmp 44), type := 0, pos := "law.go:62", after := #[{ on := 11, ground := Ground.data }, { on := 12, ground := Ground.data }, { on := 10, ground := Ground.guard }], guard := some (10, false) }) (v := ?v13z2) rfl (by kernel_rfl) (by kernel_rfl) (by kernel_rfl) (fun _ _ _ h => h) (Or.inl ⟨by rfl, ?y13z2⟩) (by assumption) ?r13z2
            case y13z2 => (intro w hSw; (try dsimp only at hSw); go_simp; first | done | with_reducible rfl)
            try simp only [Act.put, List.setIfInBounds_toArray, List.set_cons_zero, List.set_cons_succ]
            refine wpAnyH_take (i := 14) (oi := { dst := some 46, op := Op.load 9 (Operand.tmp 45), type := 9, pos := "law.go:62", after := #[{ on := 13, ground := Ground.data }, { on := 10, ground := Ground.guard }], guard := some (10, false) }) (v := ?v14z2) rfl (by kernel_rfl) (by kernel_rfl) (by kernel_rfl) (fun _ _ _ h => h) (Or.inl ⟨by rfl, ?y14z2⟩) (by assumption) ?r14z2
            case y14z2 => (intro w hSw; (try dsimp only at hSw); go_simp; first | done | with_reducible rfl)
            try simp only [Act.put, List.setIfInBounds_toArray, List.set_cons_zero, List.set_cons_succ]
            refine wpAnyH_ready (rs := [15]) (by kernel_rfl) (by simp) ?_
            refine AllReadyH.cons (o := { dst := some 47, op := Op.call { callee := Callee.value (Operand.func 21), args := #[Operand.tmp 46], argTypes := #[9] }, type := 4, pos := "law.go:62", after := #[{ on := 14, ground := Ground.data }, { on := 10, ground := Ground.chain }, { on := 10, ground := Ground.guard }], guard := some (10, false) }) rfl (fun K hK => ?_) AllReadyH.nil
            go_simp
            refine (rTok19_is hxz2 HTO).mono ?_; rintro e w6 ⟨rfl, rfl⟩
            go_wp2_with fail
            refine hK.out _ _ hHeld (fun hHeld => ?_)
            clear hK K
            try simp only [Act.put, List.setIfInBounds_toArray, List.set_cons_zero, List.set_cons_succ]
            refine wpAnyH_take (i := 16) (oi := { dst := some 48, op := Op.unOp UnOp.not 4 (Operand.tmp 47), type := 4, pos := "law.go:62", after := #[{ on := 15, ground := Ground.data }, { on := 10, ground := Ground.guard }], guard := some (10, false) }) (v := ?v16z2) rfl (by kernel_rfl) (by kernel_rfl) (by kernel_rfl) (fun _ _ _ h => h) (Or.inl ⟨by rfl, ?y16z2⟩) (by assumption) ?r16z2
            case y16z2 => (intro w hSw; (try dsimp only at hSw); go_simp; first | done | with_reducible rfl)
            try simp only [Act.put, List.setIfInBounds_toArray, List.set_cons_zero, List.set_cons_succ]
            refine wpAnyH_take (i := 17) (oi := { dst := some 49, op := Op.pick (Operand.tmp 42) (Operand.const (Value.bool true)) (Operand.tmp 48), type := 4, pos := "law.go:62", after := #[{ on := 10, ground := Ground.data }, { on := 16, ground := Ground.data }], guard := none }) (v := ?v17z2) rfl (by kernel_rfl) (by kernel_rfl) (by kernel_rfl) (fun _ _ _ h => h) (Or.inl ⟨by rfl, ?y17z2⟩) (by assumption) ?r17z2
            case y17z2 => (intro w hSw; (try dsimp only at hSw); go_simp; first | done | with_reducible rfl)
            try simp only [Act.put, List.setIfInBounds_toArray, List.set_cons_zero, List.set_cons_succ]
            refine wpAnyH_take (i := 18) (oi := { dst := some 50, op := Op.move (Operand.tmp 49), type := 4, pos := "law.go:62", after := #[{ on := 17, ground := Ground.data }, { on := 15, ground := Ground.chain }], guard := none }) (v := ?v18z2) rfl (by kernel_rfl) (by kernel_rfl) (by kernel_rfl) (fun _ _ _ h => h) (Or.inl ⟨by rfl, ?y18z2⟩) (by assumption) ?r18z2
            case y18z2 => (intro w hSw; (try dsimp only at hSw); go_simp; first | done | with_reducible rfl)
            try simp only [Act.put, List.setIfInBounds_toArray, List.set_cons_zero, List.set_cons_succ]
            refine wpAnyH_take (i := 19) (oi := { dst := some 51, op := Op.move (Operand.tmp 5), type := 3, pos := "law.go:62", after := #[{ on := 18, ground := Ground.guard }], guard := some (18, false) }) (v := ?v19z2) rfl (by kernel_rfl) (by kernel_rfl) (by kernel_rfl) (fun _ _ _ h => h) (Or.inl ⟨by rfl, ?y19z2⟩) (by assumption) ?r19z2
            case y19z2 => (intro w hSw; (try dsimp only at hSw); go_simp; first | done | with_reducible rfl)
            try simp only [Act.put, List.setIfInBounds_toArray, List.set_cons_zero, List.set_cons_succ]
            refine wpAnyH_take (i := 20) (oi := { dst := some 52, op := Op.binOp BinOp.gtr 3 (Operand.tmp 51) (Operand.const (Value.int IntKind.i64 0)) 3, type := 4, pos := "law.go:62", after := #[{ on := 19, ground := Ground.data }, { on := 18, ground := Ground.guard }], guard := some (18, false) }) (v := ?v20z2) rfl (by kernel_rfl) (by kernel_rfl) (by kernel_rfl) (fun _ _ _ h => h) (Or.inl ⟨by rfl, ?y20z2⟩) (by assumption) ?r20z2
            case y20z2 => (intro w hSw; (try dsimp only at hSw); go_simp; first | done | with_reducible rfl)
            try simp only [Act.put, List.setIfInBounds_toArray, List.set_cons_zero, List.set_cons_succ]
            refine wpAnyH_take (i := 21) (oi := { dst := some 53, op := Op.move (Operand.tmp 52), type := 4, pos := "law.go:62", after := #[{ on := 20, ground := Ground.data }, { on := 18, ground := Ground.chain }, { on := 18, ground := Ground.guard }], guard := some (18, false) }) (v := ?v21z2) rfl (by kernel_rfl) (by kernel_rfl) (by kernel_rfl) (fun _ _ _ h => h) (Or.inl ⟨by rfl, ?y21z2⟩) (by assumption) ?r21z2
            case y21z2 => (intro w hSw; (try dsimp only at hSw); go_simp; first | done | with_reducible rfl)
            try simp only [Act.put, List.setIfInBounds_toArray, List.set_cons_zero, List.set_cons_succ]
            refine wpAnyH_take (i := 22) (oi := { dst := some 54, op := Op.move (Operand.tmp 3), type := 24, pos := "law.go:62", after := #[{ on := 21, ground := Ground.guard }], guard := some (21, true) }) (v := ?v22z2) rfl (by kernel_rfl) (by kernel_rfl) (by kernel_rfl) (fun _ _ _ h => h) (Or.inl ⟨by rfl, ?y22z2⟩) (by assumption) ?r22z2
            case y22z2 => (intro w hSw; (try dsimp only at hSw); go_simp; first | done | with_reducible rfl)
            try simp only [Act.put, List.setIfInBounds_toArray, List.set_cons_zero, List.set_cons_succ]
            refine wpAnyH_take (i := 23) (oi := { dst := some 55, op := Op.move (Operand.tmp 5), type := 3, pos := "law.go:62", after := #[{ on := 21, ground := Ground.guard }], guard := some (21, true) }) (v := ?v23z2) rfl (by kernel_rfl) (by kernel_rfl) (by kernel_rfl) (fun _ _ _ h => h) (Or.inl ⟨by rfl, ?y23z2⟩) (by assumption) ?r23z2
            case y23z2 => (intro w hSw; (try dsimp only at hSw); go_simp; first | done | with_reducible rfl)
            try simp only [Act.put, List.setIfInBounds_toArray, List.set_cons_zero, List.set_cons_succ]
            refine wpAnyH_take (i := 24) (oi := { dst := some 56, op := Op.binOp BinOp.sub 3 (Operand.tmp 55) (Operand.const (Value.int IntKind.i64 1)) 3, type := 3, pos := "law.go:62", after := #[{ on := 23, ground := Ground.data }, { on := 21, ground := Ground.guard }], guard := some (21, true) }) (v := ?v24z2) rfl (by kernel_rfl) (by kernel_rfl) (by kernel_rfl) (fun _ _ _ h => h) (Or.inl ⟨by rfl, ?y24z2⟩) (by assumption) ?r24z2
            case y24z2 => (intro w hSw; (try dsimp only at hSw); go_simp; first | done | with_reducible rfl)
            try simp only [Act.put, List.setIfInBounds_toArray, List.set_cons_zero, List.set_cons_succ]
            refine wpAnyH_take (i := 25) (oi := { dst := some 57, op := Op.indexAddr 24 (Operand.tmp 54) (Operand.tmp 56), type := 0, pos := "law.go:62", after := #[{ on := 22, ground := Ground.data }, { on := 24, ground := Ground.data }, { on := 21, ground := Ground.guard }], guard := some (21, true) }) (v := ?v25z2) rfl (by kernel_rfl) (by kernel_rfl) (by kernel_rfl) (fun _ _ _ h => h) (Or.inl ⟨by rfl, ?y25z2⟩) (by assumption) ?r25z2
            case y25z2 => (intro w hSw; (try dsimp only at hSw); go_simp; first | done | with_reducible rfl)
            try simp only [Act.put, List.setIfInBounds_toArray, List.set_cons_zero, List.set_cons_succ]
            refine wpAnyH_take (i := 26) (oi := { dst := some 58, op := Op.load 9 (Operand.tmp 57), type := 9, pos := "law.go:62", after := #[{ on := 25, ground := Ground.data }, { on := 21, ground := Ground.guard }], guard := some (21, true) }) (v := ?v26z2) rfl (by kernel_rfl) (by kernel_rfl) (by kernel_rfl) (fun _ _ _ h => h) (Or.inl ⟨by rfl, ?y26z2⟩) (by assumption) ?r26z2
            case y26z2 => (intro w hSw; (try dsimp only at hSw); go_simp; first | done | with_reducible rfl)
            try simp only [Act.put, List.setIfInBounds_toArray, List.set_cons_zero, List.set_cons_succ]
            refine wpAnyH_take (i := 27) (oi := { dst := some 59, op := Op.move (Operand.tmp 3), type := 24, pos := "law.go:62", after := #[{ on := 21, ground := Ground.guard }], guard := some (21, true) }) (v := ?v27z2) rfl (by kernel_rfl) (by kernel_rfl) (by kernel_rfl) (fun _ _ _ h => h) (Or.inl ⟨by rfl, ?y27z2⟩) (by assumption) ?r27z2
            case y27z2 => (intro w hSw; (try dsimp only at hSw); go_simp; first | done | with_reducible rfl)
            try simp only [Act.put, List.setIfInBounds_toArray, List.set_cons_zero, List.set_cons_succ]
            refine wpAnyH_take (i := 28) (oi := { dst := some 60, op := Op.move (Operand.tmp 5), type := 3, pos := "law.go:62", after := #[{ on := 21, ground := Ground.guard }], guard := some (21, true) }) (v := ?v28z2) rfl (by kernel_rfl) (by kernel_rfl) (by kernel_rfl) (fun _ _ _ h => h) (Or.inl ⟨by rfl, ?y28z2⟩) (by assumption) ?r28z2
            case y28z2 => (intro w hSw; (try dsimp only at hSw); go_simp; first | done | with_reducible rfl)
            try simp only [Act.put, List.setIfInBounds_toArray, List.set_cons_zero, List.set_cons_succ]
            refine wpAnyH_take (i := 29) (oi := { dst := some 61, op := Op.indexAddr 24 (Operand.tmp 59) (Operand.tmp 60), type := 0, pos := "law.go:62", after := #[{ on := 27, ground := Ground.data }, { on := 28, ground := Ground.data }, { on := 21, ground := Ground.guard }], guard := some (21, true) }) (v := ?v29z2) rfl (by kernel_rfl) (by kernel_rfl) (by kernel_rfl) (fun _ _ _ h => h) (Or.inl ⟨by rfl, ?y29z2⟩) (by assumption) ?r29z2
            case y29z2 => (intro w hSw; (try dsimp only at hSw); go_simp; first | done | with_reducible rfl)
            try simp only [Act.put, List.setIfInBounds_toArray, List.set_cons_zero, List.set_cons_succ]
            refine wpAnyH_take (i := 30) (oi := { dst := some 62, op := Op.load 9 (Operand.tmp 61), type := 9, pos := "law.go:62", after := #[{ on := 29, ground := Ground.data }, { on := 21, ground := Ground.guard }], guard := some (21, true) }) (v := ?v30z2) rfl (by kernel_rfl) (by kernel_rfl) (by kernel_rfl) (fun _ _ _ h => h) (Or.inl ⟨by rfl, ?y30z2⟩) (by assumption) ?r30z2
            case y30z2 => (intro w hSw; (try dsimp only at hSw); go_simp; first | done | with_reducible rfl)
            try simp only [Act.put, List.setIfInBounds_toArray, List.set_cons_zero, List.set_cons_succ]
            refine wpAnyH_take (i := 31) (oi := { dst := some 63, op := Op.binOp BinOp.geq 9 (Operand.tmp 58) (Operand.tmp 62) 9, type := 4, pos := "law.go:62", after := #[{ on := 26, ground := Ground.data }, { on := 30, ground := Ground.data }, { on := 21, ground := Ground.guard }], guard := some (21, true) }) (v := ?v31z2) rfl (by kernel_rfl) (by kernel_rfl) (by kernel_rfl) (fun _ _ _ h => h) (Or.inl ⟨by rfl, ?y31z2⟩) (by assumption) ?r31z2
            case y31z2 => (intro w hSw; (try dsimp only at hSw); go_simp; first | done | with_reducible rfl)
            try simp only [Act.put, List.setIfInBounds_toArray, List.set_cons_zero, List.set_cons_succ]
            refine wpAnyH_take (i := 32) (oi := { dst := some 64, op := Op.pick (Operand.tmp 53) (Operand.tmp 63) (Operand.const (Value.bool false)), type := 4, pos := "law.go:62", after := #[{ on := 21, ground := Ground.data }, { on := 31, ground := Ground.data }, { on := 18, ground := Ground.guard }], guard := some (18, false) }) (v := ?v32z2) rfl (by kernel_rfl) (by kernel_rfl) (by kernel_rfl) (fun _ _ _ h => h) (Or.inl ⟨by rfl, ?y32z2⟩) (by assumption) ?r32z2
            case y32z2 => (intro w hSw; (try dsimp only at hSw); go_simp; first | done | with_reducible rfl)
            try simp only [Act.put, List.setIfInBounds_toArray, List.set_cons_zero, List.set_cons_succ]
            refine wpAnyH_take (i := 33) (oi := { dst := some 65, op := Op.pick (Operand.tmp 50) (Operand.const (Value.bool true)) (Operand.tmp 64), type := 4, pos := "law.go:62", after := #[{ on := 18, ground := Ground.data }, { on := 32, ground := Ground.data }], guard := none }) (v := ?v33z2) rfl (by kernel_rfl) (by kernel_rfl) (by kernel_rfl) (fun _ _ _ h => h) (Or.inl ⟨by rfl, ?y33z2⟩) (by assumption) ?r33z2
            case y33z2 => (intro w hSw; (try dsimp only at hSw); go_simp; first | done | with_reducible rfl)
            try simp only [Act.put, List.setIfInBounds_toArray, List.set_cons_zero, List.set_cons_succ]
            refine wpAnyH_done (by kernel_rfl) ?_ _
            have B6 := hHeld.2
            clear hHeld c0 c1
            go_wp2
            go_roundw
            case rel => exact ⟨i + 1, by go_num, by omega, B6⟩
            case measure => simp [intOf]; omega
        · have hki : ¬ (k : Int) < (m : Int) := by omega
          have F3 := box (F2.out.below B3.out)
          have S3 := box (S2.out.below B3.out)
          have BW := box (B2.out.trans (B3.out.mono hs2))
          have hHN := HN.out
          subst hHN
          go_wp2_with fail
          refine (rAll19_is (nm := nmVry) S HV hnv F3.out HL).mono ?_; rintro e w4 ⟨p4, c4, rfl, hS4, hb4⟩
          have B4 := box (BW.out.trans (hb4.mono BW.out.size))
          have A4 := box hS4
          have S4 := box (S3.out.below hb4)
          have hs4 := B4.out.size
          clear hb4 hS4 F3 S3
          go_wp2
          go_loopw [7] (fun i wr => ∃ k : Nat, i = .int .i64 k ∧ k ≤ l ∧ Box (Below w4.heap.size w4 wr)) (fun i _ => l - (intOf i).toNat)
          case atStart => exact ⟨0, rfl, Nat.zero_le _, box (Below.refl _ _)⟩
          case round =>
            obtain ⟨i, rfl, hi, B5⟩ := hrel
            obtain ⟨wt, rfl⟩ : ∃ wt, wt = wr := ⟨_, rfl⟩
            have hs5 := B5.out.size
            by_cases hil : i < l
            · have hii : (i : Int) < (l : Int) := by omega
              have hi0 : (0 : Int) ≤ (i : Int) := by omega
              have hiA : i < (allB nmVry L).length := by rw [HL.out]; exact hil
              obtain ⟨x, hx⟩ : ∃ x, (allB nmVry L)[i] = x := ⟨_, rfl⟩
              have hxz : x.size ≤ 65536 := by rw [← hx]; exact Nat.le_trans (HZ.out _ (List.getElem_mem hiA)) (by omega)
              have HFD : Box ((R.any fun z => foldL x.data.toList z.data.toList) = true) := box (HAS.out x (by rw [← hx]; exact List.getElem_mem hiA))
              obtain ⟨g, off, rfl, c0⟩ := A4.out i hiA
              rw [hx] at c0
              clear hx hiA
              go_wp2
              go_loopw [8, 9] (fun v i wr => FnRel x R w4 v i wr) (fun _ i _ => m - (intOf i).toNat)
              case atStart => exact ⟨0, rfl, Nat.zero_le _, rfl, B5⟩
              case round =>
                obtain ⟨j, rfl, hj, rfl, B6⟩ := hrel
                obtain ⟨wu, rfl⟩ : ∃ wu, wu = wr := ⟨_, rfl⟩
                obtain ⟨fb, hfb⟩ : ∃ fb, ((R.take j).any fun z => foldL x.data.toList z.data.toList) = fb := ⟨_, rfl⟩
                have HFB := box hfb
                rw [hfb]
                rw [HM.out] at hj
                clear hfb
                by_cases hjm : j < m
                · have hji : (j : Int) < (m : Int) := by omega
                  have hj0 : (0 : Int) ≤ (j : Int) := by omega
                  have hjR : j < R.length := by rw [HM.out]; exact hjm
                  have HMORE := box (any_more19 (x := x) hjR)
                  obtain ⟨z, hz⟩ : ∃ z, R[j] = z := ⟨_, rfl⟩
                  have hzz : z.size ≤ 65536 := by have := (UP.out.1 j hjR).1; rw [hz] at this; omega
                  obtain ⟨f, hf⟩ : ∃ f, foldL x.data.toList z.data.toList = f := ⟨_, rfl⟩
                  have HFF := box hf
                  have HNX : Box (((R.take (j + 1)).any fun z => foldL x.data.toList z.data.toList) = (fb || f)) := box (by rw [HMORE.out, HFB.out, hz, hf])
                  obtain ⟨g2, off2, rfl, c2⟩ := (S4.out.below B6.out) j hjR
                  have c1 := (B6.out.cell (cell_lt c0)).trans c0
                  rw [hz] at c2
                  clear HMORE hz hjR hf
                  cases fb with
                  | true =>
                    go_wp2
                    refine wp_region_held_drew (S := (fun w' : World => Box (Below w4.heap.size w4 w'))) (by kernel_rfl) (box B6.out.drew) (fun hHeld => ?_)
                    refine wpAnyH_take (i := 0) (oi := { dst := some 80, op := Op.move (Operand.tmp 8), type := 4, pos := "law.go:70", after := #[], guard := none }) (v := ?v0z3) rfl (by kernel_rfl) (by kernel_rfl) (by kernel_rfl) (fun _ _ _ h => h) (Or.inl ⟨by rfl, ?y0z3⟩) (by assumption) ?r0z3
                    case y0z3 => (intro w hSw; (try dsimp only at hSw); go_simp; first | done | with_reducible rfl)
                    try simp only [Act.put, List.setIfInBounds_toArray, List.set_cons_zero, List.set_cons_succ]
                    refine wpAnyH_take (i := 1) (oi := { dst := some 81, op := Op.move (Operand.tmp 80), type := 4, pos := "law.go:70", after := #[{ on := 0, ground := Ground.data }], guard := none }) (v := ?v1z3) rfl (by kernel_rfl) (by kernel_rfl) (by kernel_rfl) (fun _ _ _ h => h) (Or.inl ⟨by rfl, ?y1z3⟩) (by assumption) ?r1z3
                    case y1z3 => (intro w hSw; (try dsimp only at hSw); go_simp; first | done | with_reducible rfl)
                    try simp only [Act.put, List.setIfInBounds_toArray, List.set_cons_zero, List.set_cons_succ]
                    refine wpAnyH_take (i := 2) (oi := { dst := some 82, op := Op.move (Operand.tmp 6), type := 24, pos := "law.go:70", after := #[{ on := 1, ground := Ground.guard }], guard := some (1, false) }) (v := undef) rfl (by kernel_rfl) (by kernel_rfl) (by kernel_rfl) (fun _ _ _ h => h) (Or.inr ⟨by rfl, rfl⟩) (by assumption) ?_
                    try simp only [Act.put, List.setIfInBounds_toArray, List.set_cons_zero, List.set_cons_succ]
                    refine wpAnyH_take (i := 3) (oi := { dst := some 83, op := Op.move (Operand.tmp 7), type := 3, pos := "law.go:70", after := #[{ on := 1, ground := Ground.guard }], guard := some (1, false) }) (v := undef) rfl (by kernel_rfl) (by kernel_rfl) (by kernel_rfl) (fun _ _ _ h => h) (Or.inr ⟨by rfl, rfl⟩) (by assumption) ?_
                    try simp only [Act.put, List.setIfInBounds_toArray, List.set_cons_zero, List.set_cons_succ]
                    refine wpAnyH_take (i := 4) (oi := { dst := some 84, op := Op.indexAddr 24 (Operand.tmp 82) (Operand.tmp 83), type := 0, pos := "law.go:70", after := #[{ on := 2, ground := Ground.data }, { on := 3, ground := Ground.data }, { on := 1, ground := Ground.guard }], guard := some (1, false) }) (v := undef) rfl (by kernel_rfl) (by kernel_rfl) (by kernel_rfl) (fun _ _ _ h => h) (Or.inr ⟨by rfl, rfl⟩) (by assumption) ?_
                    try simp only [Act.put, List.setIfInBounds_toArray, List.set_cons_zero, List.set_cons_succ]
                    refine wpAnyH_take (i := 5) (oi := { dst := some 85, op := Op.load 9 (Operand.tmp 84), type := 9, pos := "law.go:70", after := #[{ on := 4, ground := Ground.data }, { on := 1, ground := Ground.guard }], guard := some (1, false) }) (v := undef) rfl (by kernel_rfl) (by kernel_rfl) (by kernel_rfl) (fun _ _ _ h => h) (Or.inr ⟨by rfl, rfl⟩) (by assumption) ?_
                    try simp only [Act.put, List.setIfInBounds_toArray, List.set_cons_zero, List.set_cons_succ]
                    refine wpAnyH_take (i := 6) (oi := { dst := some 86, op := Op.move (Operand.tmp 3), type := 24, pos := "law.go:70", after := #[{ on := 1, ground := Ground.guard }], guard := some (1, false) }) (v := undef) rfl (by kernel_rfl) (by kernel_rfl) (by kernel_rfl) (fun _ _ _ h => h) (Or.inr ⟨by rfl, rfl⟩) (by assumption) ?_
                    try simp only [Act.put, List.setIfInBounds_toArray, List.set_cons_zero, List.set_cons_succ]
                    refine wpAnyH_take (i := 7) (oi := { dst := some 87, op := Op.move (Operand.tmp 9), type := 3, pos := "law.go:70", after := #[{ on := 1, ground := Ground.guard }], guard := some (1, false) }) (v := undef) rfl (by kernel_rfl) (by kernel_rfl) (by kernel_rfl) (fun _ _ _ h => h) (Or.inr ⟨by rfl, rfl⟩) (by assumption) ?_
                    try simp only [Act.put, List.setIfInBounds_toArray, List.set_cons_zero, List.set_cons_succ]
                    refine wpAnyH_take (i := 8) (oi := { dst := some 88, op := Op.indexAddr 24 (Operand.tmp 86) (Operand.tmp 87), type := 0, pos := "law.go:70", after := #[{ on := 6, ground := Ground.data }, { on := 7, ground := Ground.data }, { on := 1, ground := Ground.guard }], guard := some (1, false) }) (v := undef) rfl (by kernel_rfl) (by kernel_rfl) (by kernel_rfl) (fun _ _ _ h => h) (Or.inr ⟨by rfl, rfl⟩) (by assumption) ?_
                    try simp only [Act.put, List.setIfInBounds_toArray, List.set_cons_zero, List.set_cons_succ]
                    refine wpAnyH_take (i := 9) (oi := { dst := some 89, op := Op.load 9 (Operand.tmp 88), type := 9, pos := "law.go:70", after := #[{ on := 8, ground := Ground.data }, { on := 1, ground := Ground.guard }], guard := some (1, false) }) (v := undef) rfl (by kernel_rfl) (by kernel_rfl) (by kernel_rfl) (fun _ _ _ h => h) (Or.inr ⟨by rfl, rfl⟩) (by assumption) ?_
                    try simp only [Act.put, List.setIfInBounds_toArray, List.set_cons_zero, List.set_cons_succ]
                    refine wpAnyH_take (i := 10) (oi := { dst := some 90, op := Op.call { callee := Callee.value (Operand.func 23), args := #[Operand.tmp 85, Operand.tmp 89], argTypes := #[9, 9] }, type := 4, pos := "law.go:70", after := #[{ on := 5, ground := Ground.data }, { on := 9, ground := Ground.data }, { on := 1, ground := Ground.chain }, { on := 1, ground := Ground.guard }], guard := some (1, false) }) (v := undef) rfl (by kernel_rfl) (by kernel_rfl) (by kernel_rfl) (fun _ _ _ h => h) (Or.inr ⟨by rfl, rfl⟩) (by assumption) ?_
                    try simp only [Act.put, List.setIfInBounds_toArray, List.set_cons_zero, List.set_cons_succ]
                    refine wpAnyH_take (i := 11) (oi := { dst := some 91, op := Op.pick (Operand.tmp 81) (Operand.const (Value.bool true)) (Operand.tmp 90), type := 4, pos := "law.go:70", after := #[{ on := 1, ground := Ground.data }, { on := 10, ground := Ground.data }], guard := none }) (v := ?v11z3) rfl (by kernel_rfl) (by kernel_rfl) (by kernel_rfl) (fun _ _ _ h => h) (Or.inl ⟨by rfl, ?y11z3⟩) (by assumption) ?r11z3
                    case y11z3 => (intro w hSw; (try dsimp only at hSw); go_simp; first | done | with_reducible rfl)
                    try simp only [Act.put, List.setIfInBounds_toArray, List.set_cons_zero, List.set_cons_succ]
                    refine wpAnyH_take (i := 12) (oi := { dst := some 8, op := Op.assign (Operand.tmp 91), type := 4, pos := "law.go:70", after := #[{ on := 11, ground := Ground.data }, { on := 10, ground := Ground.chain }, { on := 0, ground := Ground.phase }, { on := 1, ground := Ground.phase }, { on := 2, ground := Ground.phase }, { on := 3, ground := Ground.phase }, { on := 4, ground := Ground.phase }, { on := 5, ground := Ground.phase }, { on := 6, ground := Ground.phase }, { on := 7, ground := Ground.phase }, { on := 8, ground := Ground.phase }, { on := 9, ground := Ground.phase }, { on := 10, ground := Ground.phase }, { on := 11, ground := Ground.phase }], guard := none }) (v := ?v12z3) rfl (by kernel_rfl) (by kernel_rfl) (by kernel_rfl) (fun _ _ _ h => h) (Or.inl ⟨by rfl, ?y12z3⟩) (by assumption) ?r12z3
                    case y12z3 => (intro w hSw; (try dsimp only at hSw); go_simp; first | done | with_reducible rfl)
                    try simp only [Act.put, List.setIfInBounds_toArray, List.set_cons_zero, List.set_cons_succ]
                    refine wpAnyH_done (by kernel_rfl) ?_ _
                    have B7 := hHeld
                    clear hHeld
                    go_wp2
                    go_roundw
                    case rel => exact ⟨j + 1, by go_num, by rw [HM.out]; omega, by rw [HNX.out]; rfl, B7⟩
                    case measure => simp [intOf]; omega
                  | false =>
                    go_wp2
                    refine wp_region_held_drew (S := (fun w' : World => (w'.cell? ⟨g, off + i, none⟩ = some (.string x) ∧ w'.cell? ⟨g2, off2 + j, none⟩ = some (.string z)) ∧ Box (Below w4.heap.size w4 w'))) (by kernel_rfl) ⟨⟨c1, c2⟩, box B6.out.drew⟩ (fun hHeld => ?_)
                    refine wpAnyH_take (i := 0) (oi := { dst := some 80, op := Op.move (Operand.tmp 8), type := 4, pos := "law.go:70", after := #[], guard := none }) (v := ?v0z4) rfl (by kernel_rfl) (by kernel_rfl) (by kernel_rfl) (fun _ _ _ h => h) (Or.inl ⟨by rfl, ?y0z4⟩) (by assumption) ?r0z4
                    case y0z4 => (intro w hSw; (try dsimp only at hSw); go_simp; first | done | with_reducible rfl)
                    try simp only [Act.put, List.setIfInBounds_toArray, List.set_cons_zero, List.set_cons_succ]
                    refine wpAnyH_take (i := 1) (oi := { dst := some 81, op := Op.move (Operand.tmp 80), type := 4, pos := "law.go:70", after := #[{ on := 0, ground := Ground.data }], guard := none }) (v := ?v1z4) rfl (by kernel_rfl) (by kernel_rfl) (by kernel_rfl) (fun _ _ _ h => h) (Or.inl ⟨by rfl, ?y1z4⟩) (by assumption) ?r1z4
                    case y1z4 => (intro w hSw; (try dsimp only at hSw); go_simp; first | done | with_reducible rfl)
                    try simp only [Act.put, List.setIfInBounds_toArray, List.set_cons_zero, List.set_cons_succ]
                    refine wpAnyH_take (i := 2) (oi := { dst := some 82, op := Op.move (Operand.tmp 6), type := 24, pos := "law.go:70", after := #[{ on := 1, ground := Ground.guard }], guard := some (1, false) }) (v := ?v2z4) rfl (by kernel_rfl) (by kernel_rfl) (by kernel_rfl) (fun _ _ _ h => h) (Or.inl ⟨by rfl, ?y2z4⟩) (by assumption) ?r2z4
                    case y2z4 => (intro w hSw; (try dsimp only at hSw); go_simp; first | done | with_reducible rfl)
                    try simp only [Act.put, List.setIfInBounds_toArray, List.set_cons_zero, List.set_cons_succ]
                    refine wpAnyH_take (i := 3) (oi := { dst := some 83, op := Op.move (Operand.tmp 7), type := 3, pos := "law.go:70", after := #[{ on := 1, ground := Ground.guard }], guard := some (1, false) }) (v := ?v3z4) rfl (by kernel_rfl) (by kernel_rfl) (by kernel_rfl) (fun _ _ _ h => h) (Or.inl ⟨by rfl, ?y3z4⟩) (by assumption) ?r3z4
                    case y3z4 => (intro w hSw; (try dsimp only at hSw); go_simp; first | done | with_reducible rfl)
                    try simp only [Act.put, List.setIfInBounds_toArray, List.set_cons_zero, List.set_cons_succ]
                    refine wpAnyH_take (i := 4) (oi := { dst := some 84, op := Op.indexAddr 24 (Operand.tmp 82) (Operand.tmp 83), type := 0, pos := "law.go:70", after := #[{ on := 2, ground := Ground.data }, { on := 3, ground := Ground.data }, { on := 1, ground := Ground.guard }], guard := some (1, false) }) (v := ?v4z4) rfl (by kernel_rfl) (by kernel_rfl) (by kernel_rfl) (fun _ _ _ h => h) (Or.inl ⟨by rfl, ?y4z4⟩) (by assumption) ?r4z4
                    case y4z4 => (intro w hSw; (try dsimp only at hSw); go_simp; first | done | with_reducible rfl)
                    try simp only [Act.put, List.setIfInBounds_toArray, List.set_cons_zero, List.set_cons_succ]
                    refine wpAnyH_take (i := 5) (oi := { dst := some 85, op := Op.load 9 (Operand.tmp 84), type := 9, pos := "law.go:70", after := #[{ on := 4, ground := Ground.data }, { on := 1, ground := Ground.guard }], guard := some (1, false) }) (v := ?v5z4) rfl (by kernel_rfl) (by kernel_rfl) (by kernel_rfl) (fun _ _ _ h => h) (Or.inl ⟨by rfl, ?y5z4⟩) (by assumption) ?r5z4
                    case y5z4 => (intro w hSw; (try dsimp only at hSw); go_simp; first | done | with_reducible rfl)
                    try simp only [Act.put, List.setIfInBounds_toArray, List.set_cons_zero, List.set_cons_succ]
                    refine wpAnyH_take (i := 6) (oi := { dst := some 86, op := Op.move (Operand.tmp 3), type := 24, pos := "law.go:70", after := #[{ on := 1, ground := Ground.guard }], guard := some (1, false) }) (v := ?v6z4) rfl (by kernel_rfl) (by kernel_rfl) (by kernel_rfl) (fun _ _ _ h => h) (Or.inl ⟨by rfl, ?y6z4⟩) (by assumption) ?r6z4
                    case y6z4 => (intro w hSw; (try dsimp only at hSw); go_simp; first | done | with_reducible rfl)
                    try simp only [Act.put, List.setIfInBounds_toArray, List.set_cons_zero, List.set_cons_succ]
                    refine wpAnyH_take (i := 7) (oi := { dst := some 87, op := Op.move (Operand.tmp 9), type := 3, pos := "law.go:70", after := #[{ on := 1, ground := Ground.guard }], guard := some (1, false) }) (v := ?v7z4) rfl (by kernel_rfl) (by kernel_rfl) (by kernel_rfl) (fun _ _ _ h => h) (Or.inl ⟨by rfl, ?y7z4⟩) (by assumption) ?r7z4
                    case y7z4 => (intro w hSw; (try dsimp only at hSw); go_simp; first | done | with_reducible rfl)
                    try simp only [Act.put, List.setIfInBounds_toArray, List.set_cons_zero, List.set_cons_succ]
                    refine wpAnyH_take (i := 8) (oi := { dst := some 88, op := Op.indexAddr 24 (Operand.tmp 86) (Operand.tmp 87), type := 0, pos := "law.go:70", after := #[{ on := 6, ground := Ground.data }, { on := 7, ground := Ground.data }, { on := 1, ground := Ground.guard }], guard := some (1, false) }) (v := ?v8z4) rfl (by kernel_rfl) (by kernel_rfl) (by kernel_rfl) (fun _ _ _ h => h) (Or.inl ⟨by rfl, ?y8z4⟩) (by assumption) ?r8z4
                    case y8z4 => (intro w hSw; (try dsimp only at hSw); go_simp; first | done | with_reducible rfl)
                    try simp only [Act.put, List.setIfInBounds_toArray, List.set_cons_zero, List.set_cons_succ]
                    refine wpAnyH_take (i := 9) (oi := { dst := some 89, op := Op.load 9 (Operand.tmp 88), type := 9, pos := "law.go:70", after := #[{ on := 8, ground := Ground.data }, { on := 1, ground := Ground.guard }], guard := some (1, false) }) (v := ?v9z4) rfl (by kernel_rfl) (by kernel_rfl) (by kernel_rfl) (fun _ _ _ h => h) (Or.inl ⟨by rfl, ?y9z4⟩) (by assumption) ?r9z4
                    case y9z4 => (intro w hSw; (try dsimp only at hSw); go_simp; first | done | with_reducible rfl)
                    try simp only [Act.put, List.setIfInBounds_toArray, List.set_cons_zero, List.set_cons_succ]
                    refine wpAnyH_ready (rs := [10]) (by kernel_rfl) (by simp) ?_
                    refine AllReadyH.cons (o := { dst := some 90, op := Op.call { callee := Callee.value (Operand.func 23), args := #[Operand.tmp 85, Operand.tmp 89], argTypes := #[9, 9] }, type := 4, pos := "law.go:70", after := #[{ on := 5, ground := Ground.data }, { on := 9, ground := Ground.data }, { on := 1, ground := Ground.chain }, { on := 1, ground := Ground.guard }], guard := some (1, false) }) rfl (fun K hK => ?_) AllReadyH.nil
                    go_simp
                    refine (rFold19_is hxz hzz HFF).mono ?_; rintro e w7 ⟨rfl, hb7⟩
                    have B7 := box (hHeld.2.out.trans (hb7.mono hHeld.2.out.size))
                    go_wp2_with fail
                    refine hK.out _ _ ⟨⟨(hb7.cell (cell_lt hHeld.1.1)).trans hHeld.1.1, (hb7.cell (cell_lt hHeld.1.2)).trans hHeld.1.2⟩, B7⟩ (fun hHeld => ?_)
                    clear hK K
                    try simp only [Act.put, List.setIfInBounds_toArray, List.set_cons_zero, List.set_cons_succ]
                    refine wpAnyH_take (i := 11) (oi := { dst := some 91, op := Op.pick (Operand.tmp 81) (Operand.const (Value.bool true)) (Operand.tmp 90), type := 4, pos := "law.go:70", after := #[{ on := 1, ground := Ground.data }, { on := 10, ground := Ground.data }], guard := none }) (v := ?v11z4) rfl (by kernel_rfl) (by kernel_rfl) (by kernel_rfl) (fun _ _ _ h => h) (Or.inl ⟨by rfl, ?y11z4⟩) (by assumption) ?r11z4
                    case y11z4 => (intro w hSw; (try dsimp only at hSw); go_simp; first | done | with_reducible rfl)
                    try simp only [Act.put, List.setIfInBounds_toArray, List.set_cons_zero, List.set_cons_succ]
                    refine wpAnyH_take (i := 12) (oi := { dst := some 8, op := Op.assign (Operand.tmp 91), type := 4, pos := "law.go:70", after := #[{ on := 11, ground := Ground.data }, { on := 10, ground := Ground.chain }, { on := 0, ground := Ground.phase }, { on := 1, ground := Ground.phase }, { on := 2, ground := Ground.phase }, { on := 3, ground := Ground.phase }, { on := 4, ground := Ground.phase }, { on := 5, ground := Ground.phase }, { on := 6, ground := Ground.phase }, { on := 7, ground := Ground.phase }, { on := 8, ground := Ground.phase }, { on := 9, ground := Ground.phase }, { on := 10, ground := Ground.phase }, { on := 11, ground := Ground.phase }], guard := none }) (v := ?v12z4) rfl (by kernel_rfl) (by kernel_rfl) (by kernel_rfl) (fun _ _ _ h => h) (Or.inl ⟨by rfl, ?y12z4⟩) (by assumption) ?r12z4
                    case y12z4 => (intro w hSw; (try dsimp only at hSw); go_simp; first | done | with_reducible rfl)
                    try simp only [Act.put, List.setIfInBounds_toArray, List.set_cons_zero, List.set_cons_succ]
                    refine wpAnyH_done (by kernel_rfl) ?_ _
                    clear hHeld c1 c2
                    go_wp2
                    go_roundw
                    case rel => exact ⟨j + 1, by go_num, by rw [HM.out]; omega, by rw [HNX.out]; rfl, B7⟩
                    case measure => simp [intOf]; omega
                · have hji : ¬ (j : Int) < (m : Int) := by omega
                  have HTR : Box (fb = true) := box (by rw [← HFB.out, List.take_of_length_le (by rw [HM.out]; omega)]; exact HFD.out)
                  have htr := HTR.out
                  subst htr
                  go_wp2
                  go_roundw
                  case rel => exact ⟨i + 1, by go_num, by omega, B6⟩
                  case measure => simp [intOf]; omega
            · have hii : ¬ (i : Int) < (l : Int) := by omega
              have hmli : (m : Int) ≤ (l : Int) := by omega
              have B6 := box (B4.out.trans (B5.out.mono hs4))
              go_wp2_with fail
              refine (awake19_any _).mono ?_; rintro e w7 ⟨rfl, hb7⟩
              have B7 := box (B6.out.trans (hb7.mono B6.out.size))
              clear hb7
              go_wp2
              go_ret
              exact ⟨rfl, B7.out⟩
theorem sorted19_walk (a : Option Addr) (cap : Nat) (L : List F) (w : World) (hl0 : L.length ≤ maxLen) (hF : Fs w a L) (hc : L.length ≤ cap) :
    Calls Try.prog 6 #[.slice a L.length cap] w fun e w' => e = .returned (.bool true) ∧ Below w.heap.size w w' :=
  sorted19_in a cap _ L w (box hl0) (box hF) (box rfl)
end
end Go.Proofs.Ytlhcccakiidbdaa.Asc
