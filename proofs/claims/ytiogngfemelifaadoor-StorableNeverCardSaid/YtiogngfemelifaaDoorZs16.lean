/- Merged texts: StoLaws4 DatLaid. -/
import Derived.Test.YtiogngfemelifaaDoorZs10
import Derived.Test.YtiogngfemelifaaDoorZs11
import Derived.Test.YtiogngfemelifaaDoorZs14
import Derived.Test.YtiogngfemelifaaDoorZs15
import Derived.LaidMore
import Derived.Lib.LaidTab
set_option linter.unusedVariables false
set_option linter.unusedSimpArgs false
set_option maxRecDepth 100000
namespace Go.Proofs.YtiogngfemelifaaDoor.Asc
section
open Go.RowKit
theorem Only.cell24 {g h i : Nat} {w w' : World} (o : Only g w w') (hh : h ≠ g) (hl : h < w.heap.size) : w'.cell? ⟨h, i, none⟩ = w.cell? ⟨h, i, none⟩ := World.cell?_of_block (w := w) (o.block h hl hh)
theorem own_fs24 {w : World} {B n cap : Nat} {a : Option Addr} {L : List F} (h : OwnF w B (.slice a n cap) L) : Fs w a L := by
  obtain ⟨a', cap', he, hF, _⟩ := h.fs
  injection he with e1 e2 e3
  rw [e1]; exact hF
set_option maxHeartbeats 8000000 in
theorem never24_req (m t : ByteArray) (n : Int) (a : Option Addr) (cap nq : Nat) (Q : List F) (b : ByteArray) (kk s : Int) (r : ByteArray) (a' : Option Addr) (cap' nl : Nat) (L : List F) (c : ByteArray) (z p : Int) (w : World)
    (hm : Box (m.size ≤ maxLen)) (ht : Box (t.size ≤ maxLen)) (hQl : Box (Q.length ≤ maxLen)) (hQ : Fs w a Q) (hb : Box (b.size ≤ maxLen)) (hcq : Box (Q.length ≤ cap ∧ (a = none → cap = 0))) (hr : Box (r.size ≤ maxLen)) (hLl : Box (L.length ≤ maxLen)) (hL : Fs w a' L) (hc : Box (c.size ≤ maxLen)) (hcl : Box (L.length ≤ cap' ∧ (a' = none → cap' = 0))) (HNQ : Box (Q.length = nq)) (HNL : Box (L.length = nl)) (hW : Tabs w) (hz : bits .and .i64 z 3 = 3) :
    Calls Tryd.prog 3 #[.agg #[.string m, .string t, .int .i64 n, .slice a nq cap, .string b], .agg #[.int .i64 kk, .int .i64 s, .string r, .slice a' nl cap', .string c], .int .i64 z, .int .i64 p] w fun e w' => e = .returned (.bool true) ∧ Below w.heap.size w w' := by
  have T0 := box (Two.new (w := w) (c0 := .string m) (c1 := .string t) (c2 := .int .i64 n) (c3 := .slice a nq cap) (c4 := .string b) (d0 := .int .i64 kk) (d1 := .int .i64 s) (d2 := .string r) (d3 := .slice a' nl cap') (d4 := .string c) 24 26 hQ hL)
  have W0 := box hW
  have Q0 := box hQ
  have L0 := box hL
  clear hQ hL hW
  go_enter Tryd.func3, Tryd.ntmps3
  go_wp2_with fail
  refine (kReq24_is hm.out ht.out hb.out hQl T0.out.f HNQ).mono ?_; rintro e w1 ⟨⟨q1, rfl, hq1⟩, hb1⟩
  have T1 := box (T0.out.next hb1)
  clear hb1
  cases q1 with
  | false =>
    go_wp2
    go_ret
    exact ⟨rfl, T1.out.b⟩
  | true =>
    obtain ⟨e0, e1, e2, e3, e4, f0, f1, f2, f3, f4⟩ := T1.out.cells
    go_wp2_with fail
    refine (kRes24_is hr.out hc.out hLl T1.out.g HNL).mono ?_; rintro e w2 ⟨⟨q2, rfl, hq2⟩, hb2⟩
    have T2 := box (T1.out.next hb2)
    clear hb2 e0 e1 e2 e3 e4 f0 f1 f2 f3 f4
    cases q2 with
    | false =>
      go_wp2
      go_ret
      exact ⟨rfl, T2.out.b⟩
    | true =>
      have KQ := box (hq1 (by simp)).2.2.1
      have KL := box (hq2 (by simp)).2.1
      clear hq1 hq2
      obtain ⟨e0, e1, e2, e3, e4, f0, f1, f2, f3, f4⟩ := T2.out.cells
      by_cases hp0 : p < 0
      · go_wp2
        go_ret
        exact ⟨rfl, T2.out.b⟩
      · by_cases hp1 : (nl : Int) < p
        · go_wp2
          go_ret
          exact ⟨rfl, T2.out.b⟩
        · obtain ⟨k, rfl⟩ : ∃ k : Nat, p = k := ⟨p.toNat, by omega⟩
          have hkn : k ≤ nl := by omega
          obtain ⟨fn, hfn⟩ : ∃ fn : ByteArray, ccL = fn := ⟨_, rfl⟩
          obtain ⟨fv, hfv⟩ : ∃ fv : ByteArray, nsV24 = fv := ⟨_, rfl⟩
          have hfz : fn.size ≤ 300 ∧ fv.size ≤ 300 := by rw [← hfn, ← hfv]; decide
          have q7 := (keep_parts KQ.out).1
          have l7 := (keep_parts KL.out).1
          obtain ⟨w5, hw5⟩ : ∃ w5, w2.alloc (.cells #[.string fn, .string fv] 30) = w5 := ⟨_, rfl⟩
          have HW5 := box hw5
          have T5 := box (show Two w (.string m) (.string t) (.int .i64 n) (.slice a nq cap) (.string b) (.int .i64 kk) (.int .i64 s) (.string r) (.slice a' nl cap') (.string c) a a' Q L w5 from by rw [← hw5]; exact T2.out.next (below_new _ _))
          have d00 : w5.cell? ⟨w2.heap.size, 0, none⟩ = some (.string fn) := by rw [← hw5, World.cell?_alloc_mark]; rfl
          have d01 : w5.cell? ⟨w2.heap.size, 1, none⟩ = some (.string fv) := by rw [← hw5, World.cell?_alloc_mark]; rfl
          have HFN := box hfn
          have HFV := box hfv
          clear hw5 hfn hfv
          have BS0 := box ((Below.refl w5.heap.size w5).drew)
          have hs5 := T5.out.b.size
          have hg5 : w.heap.size + 1 < w5.heap.size := T5.out.d.lt
          have hg2 : w.heap.size + 1 < w2.heap.size := T2.out.d.lt
          have q65 : Q.length ≤ 65536 := by omega
          have l65 : L.length ≤ 65536 := by omega
          have HV : Box (storV m.data.toList s (Q ++ [(fn, fv)]) L = false) := box (by rw [← HFN.out, ← HFV.out]; exact never_req _ _ _ _)
          have SV := sm_put (A := Q) (B := []) (n := fn) (v := fv) (keep_mem KQ.out) (fun x h => by cases h) (by simpa using q7) hfz.1 hfz.2
          have SQ := box SV.1
          have VQ := box SV.2
          have SL := box (keep_sm7 KL.out)
          have VL := box (keep_get KL.out)
          have HN2 : Box ((Q ++ [(fn, fv)]).length = nq + 1) := box (by rw [List.length_append, HNQ.out]; rfl)
          clear SV q7 l7 hfz
          go_wp2
          rw [show (⟨#[99, 97, 99, 104, 101, 45, 99, 111, 110, 116, 114, 111, 108]⟩ : ByteArray) = fn from HFN.out, show (⟨#[78, 111, 45, 83, 116, 111, 114, 101]⟩ : ByteArray) = fv from HFV.out, HW5.out]
          clear e0 e1 e2 e3 e4 f0 f1 f2 f3 f4
          obtain ⟨e0, e1, e2, e3, e4, f0, f1, f2, f3, f4⟩ := T5.out.cells
          refine wp_region_held_drew (S := (fun w' : World => (w'.cell? ⟨w2.heap.size, 0, none⟩ = some (.string fn) ∧ w'.cell? ⟨w2.heap.size, 1, none⟩ = some (.string fv)))) (by kernel_rfl) ⟨d00, d01⟩ (fun hHeld => ?_)
          have N_q := BS0
          refine wpAnyH_take (i := 0) (oi := { dst := some 42, op := Op.fieldAddr 24 (Operand.tmp 4) 3, type := 0, pos := "law.go:47", after := #[], guard := none }) (v := ?v0x1q) rfl (by kernel_rfl) (by kernel_rfl) (by kernel_rfl) (fun _ _ _ h => h) (Or.inl ⟨by rfl, ?y0x1q⟩) (by assumption) ?r0x1q
          case y0x1q => (intro w hSw; (try dsimp only at hSw); go_simp; first | done | with_reducible rfl)
          try simp only [Act.put, List.setIfInBounds_toArray, List.set_cons_zero, List.set_cons_succ]
          refine wpAnyH_take (i := 3) (oi := { dst := some 45, op := Op.load 30 (Operand.tmp 9), type := 30, pos := "law.go:47", after := #[], guard := none }) (v := ?v3x2q) rfl (by kernel_rfl) (by kernel_rfl) (by kernel_rfl) (fun _ _ _ h => h) (Or.inl ⟨by rfl, ?y3x2q⟩) (by assumption) ?r3x2q
          case y3x2q => (intro w hSw; (try dsimp only at hSw); go_simp; first | done | with_reducible rfl)
          try simp only [Act.put, List.setIfInBounds_toArray, List.set_cons_zero, List.set_cons_succ]
          refine wpAnyH_ready (rs := [1, 4]) (by kernel_rfl) (by simp) ?_
          refine AllReadyH.cons (o := { dst := some 43, op := Op.load 22 (Operand.tmp 42), type := 22, pos := "law.go:47", after := #[{ on := 0, ground := Ground.data }], guard := none }) rfl (fun K hK => ?_) (AllReadyH.cons (o := { dst := some 46, op := Op.buildSlice 22 1 #[(0, Operand.tmp 45)], type := 22, pos := "law.go:47", after := #[{ on := 3, ground := Ground.data }], guard := none }) rfl (fun K hK => ?_) AllReadyH.nil)
          · refine step_load24 _ rfl _ rfl _ _ _ rfl ((N_q.out.cell (cell_lt e3)).trans e3) ?_
            have N_ql := N_q
            refine hK.out _ _ ⟨(N_ql.out.cell (cell_lt d00)).trans d00, (N_ql.out.cell (cell_lt d01)).trans d01⟩ (fun hHeld => ?_)
            clear hK K
            try simp only [Act.put, List.setIfInBounds_toArray, List.set_cons_zero, List.set_cons_succ]
            refine wpAnyH_ready (rs := [2, 4]) (by kernel_rfl) (by simp) ?_
            refine AllReadyH.cons (o := { dst := some 44, op := Op.call { callee := Callee.builtin Builtin.append, args := #[Operand.const (Value.slice none 0 0), Operand.tmp 43], argTypes := #[22, 22] }, type := 22, pos := "law.go:47", after := #[{ on := 1, ground := Ground.data }], guard := none }) rfl (fun K hK => ?_) (AllReadyH.cons (o := { dst := some 46, op := Op.buildSlice 22 1 #[(0, Operand.tmp 45)], type := 22, pos := "law.go:47", after := #[{ on := 3, ground := Ground.data }], guard := none }) rfl (fun K hK => ?_) AllReadyH.nil)
            · refine step_append_flds _ rfl (.const (.slice none 0 0)) (.tmp 43) rfl (w5.drew.heap.size) (.slice none 0 0) [] Q rfl (OwnF.nil _ _) a nq cap rfl HNQ.out hcq.out.2 (T5.out.f.below N_ql.out) (Nat.zero_le _) q65 (Nat.le_refl _) ?_
              intro v_qla w_qla hO hb
              rw [List.nil_append] at hO
              have N_qla := box (N_ql.out.trans (hb.mono N_ql.out.size))
              have O_qla := box hO
              have D_qla := box hb.size
              clear hO hb
              refine hK.out _ _ ⟨(N_qla.out.cell (cell_lt d00)).trans d00, (N_qla.out.cell (cell_lt d01)).trans d01⟩ (fun hHeld => ?_)
              clear hK K
              try simp only [Act.put, List.setIfInBounds_toArray, List.set_cons_zero, List.set_cons_succ]
              refine wpAnyH_ready (rs := [4]) (by kernel_rfl) (by simp) ?_
              refine AllReadyH.cons (o := { dst := some 46, op := Op.buildSlice 22 1 #[(0, Operand.tmp 45)], type := 22, pos := "law.go:47", after := #[{ on := 3, ground := Ground.data }], guard := none }) rfl (fun K hK => ?_) AllReadyH.nil
              refine step_build24 _ rfl _ rfl fn fv rfl ?_
              intro w_qlab hC hb
              have N_qlab := box (N_qla.out.trans (hb.mono N_qla.out.size))
              have C_qlab := box hC
              have O_qlab := box (own_below O_qla.out hb)
              have D_qlab := box (Nat.le_trans D_qla.out hb.size)
              clear hC hb
              refine hK.out _ _ ⟨(N_qlab.out.cell (cell_lt d00)).trans d00, (N_qlab.out.cell (cell_lt d01)).trans d01⟩ (fun hHeld => ?_)
              clear hK K
              try simp only [Act.put, List.setIfInBounds_toArray, List.set_cons_zero, List.set_cons_succ]
              refine wpAnyH_ready (rs := [5]) (by kernel_rfl) (by simp) ?_
              refine AllReadyH.cons (o := { dst := some 47, op := Op.call { callee := Callee.builtin Builtin.append, args := #[Operand.tmp 44, Operand.tmp 46], argTypes := #[22, 22] }, type := 22, pos := "law.go:47", after := #[{ on := 2, ground := Ground.data }, { on := 4, ground := Ground.data }, { on := 2, ground := Ground.chain }], guard := none }) rfl (fun K hK => ?_) AllReadyH.nil
              refine step_append_fld _ rfl (.tmp 44) (.tmp 46) rfl (w5.drew.heap.size) v_qla Q rfl O_qlab.out _ _ rfl fn fv C_qlab.out.1 C_qlab.out.2 q65 ?d_qlab ?_
              case d_qlab => exact D_qlab.out
              intro v7 w7 hO7 hb7
              have BS7 := box (N_qlab.out.trans (hb7.mono N_ql.out.size))
              have O7 : Box (OwnF w7 w5.heap.size v7 (Q ++ [(fn, fv)])) := box (Go.Joins.ownsRow_le hO7 N_ql.out.size)
              clear hO7 hb7
              refine hK.out _ _ ⟨(BS7.out.cell (cell_lt d00)).trans d00, (BS7.out.cell (cell_lt d01)).trans d01⟩ (fun hHeld => ?_)
              clear hK K
              try simp only [Act.put, List.setIfInBounds_toArray, List.set_cons_zero, List.set_cons_succ]
              refine wpAnyH_take (i := 6) (oi := { dst := some 48, op := Op.fieldAddr 24 (Operand.tmp 4) 3, type := 0, pos := "law.go:47", after := #[{ on := 0, ground := Ground.phase }, { on := 1, ground := Ground.phase }, { on := 2, ground := Ground.phase }, { on := 3, ground := Ground.phase }, { on := 4, ground := Ground.phase }, { on := 5, ground := Ground.phase }], guard := none }) (v := ?v6x3q) rfl (by kernel_rfl) (by kernel_rfl) (by kernel_rfl) (fun _ _ _ h => h) (Or.inl ⟨by rfl, ?y6x3q⟩) (by assumption) ?r6x3q
              case y6x3q => (intro w hSw; (try dsimp only at hSw); go_simp; first | done | with_reducible rfl)
              try simp only [Act.put, List.setIfInBounds_toArray, List.set_cons_zero, List.set_cons_succ]
              obtain ⟨a7, c7, rfl, _, _⟩ := OwnF.fs O7.out
              rw [HN2.out] at O7
              rw [HN2.out]
              have CQ7 := T5.out.c.next BS7.out
              refine wpAnyH_ready (rs := [7]) (by kernel_rfl) (by simp) ?_
              refine AllReadyH.cons (o := { dst := none, op := Op.store 22 (Operand.tmp 48) (Operand.tmp 47), type := 0, pos := "law.go:47", after := #[{ on := 6, ground := Ground.data }, { on := 5, ground := Ground.data }, { on := 5, ground := Ground.chain }, { on := 0, ground := Ground.phase }, { on := 1, ground := Ground.phase }, { on := 2, ground := Ground.phase }, { on := 3, ground := Ground.phase }, { on := 4, ground := Ground.phase }, { on := 5, ground := Ground.phase }], guard := none }) rfl (fun K hK => ?_) AllReadyH.nil
              refine step_put24 _ rfl _ _ rfl _ _ _ a7 (nq + 1) c7 rfl rfl CQ7.1.2.2.2.1 CQ7.2.2.2.2.1 ?_
              intro v8
              have CQ8 := CQ7.set3 (.slice a7 (nq + 1) c7)
              have ON8 : Only w.heap.size w7 (w7.setCell ⟨w.heap.size, 3, none⟩ (.slice a7 (nq + 1) c7)) := (Only.refl _ _).setAt 3 _
              have CR8 := (T5.out.d.next BS7.out).only ON8 (by omega)
              have O8 := own_only O7.out ON8 (by omega)
              have B8 := box ((T5.out.b.trans (BS7.out.mono hs5)).setCell (p := ⟨w.heap.size, 3, none⟩) (Nat.le_refl _) (.slice a7 (nq + 1) c7))
              obtain ⟨w8, hw8⟩ : ∃ w8, w7.setCell ⟨w.heap.size, 3, none⟩ (.slice a7 (nq + 1) c7) = w8 := ⟨_, rfl⟩
              rw [hw8] at CQ8 ON8 CR8 O8 B8 ⊢
              refine hK.out _ _ ⟨(ON8.cell24 (h := w2.heap.size) (by omega) (cell_lt ((BS7.out.cell (cell_lt d00)).trans d00))).trans ((BS7.out.cell (cell_lt d00)).trans d00), (ON8.cell24 (h := w2.heap.size) (by omega) (cell_lt ((BS7.out.cell (cell_lt d01)).trans d01))).trans ((BS7.out.cell (cell_lt d01)).trans d01)⟩ (fun hHeld => ?_)
              clear hK K
              try simp only [Act.put, List.setIfInBounds_toArray, List.set_cons_zero, List.set_cons_succ]
              refine wpAnyH_done (by kernel_rfl) ?_ _
              obtain ⟨⟨c0, c1, c2, c3, c4⟩, _⟩ := CQ8
              obtain ⟨⟨x0, x1, x2, x3, x4⟩, _⟩ := CR8
              have F8 := box (own_fs24 O8)
              clear hHeld ON8 O8 CQ7 hw8 d00 d01 e0 e1 e2 e3 e4 f0 f1 f2 f3 f4
              go_wp2_with fail
              refine (mStor_is SQ VQ F8.out HN2 SL VL (L0.out.below B8.out) HNL (W0.out.below B8.out) HV).mono ?_; rintro e w9 ⟨rfl, hb9⟩
              have B9 := box (B8.out.trans (hb9.mono B8.out.size))
              clear hb9
              go_wp2_with fail
              refine (awake24_any _ (W0.out.below B9.out)).mono ?_; rintro e wa ⟨rfl, hba⟩
              have BA := box (B9.out.trans (hba.mono B9.out.size))
              clear hba
              go_wp2
              go_ret
              exact ⟨rfl, BA.out⟩
            · refine step_build24 _ rfl _ rfl fn fv rfl ?_
              intro w_qlb hC hb
              have N_qlb := box (N_ql.out.trans (hb.mono N_ql.out.size))
              have C_qlb := box hC
              clear hC hb
              refine hK.out _ _ ⟨(N_qlb.out.cell (cell_lt d00)).trans d00, (N_qlb.out.cell (cell_lt d01)).trans d01⟩ (fun hHeld => ?_)
              clear hK K
              try simp only [Act.put, List.setIfInBounds_toArray, List.set_cons_zero, List.set_cons_succ]
              refine wpAnyH_ready (rs := [2]) (by kernel_rfl) (by simp) ?_
              refine AllReadyH.cons (o := { dst := some 44, op := Op.call { callee := Callee.builtin Builtin.append, args := #[Operand.const (Value.slice none 0 0), Operand.tmp 43], argTypes := #[22, 22] }, type := 22, pos := "law.go:47", after := #[{ on := 1, ground := Ground.data }], guard := none }) rfl (fun K hK => ?_) AllReadyH.nil
              refine step_append_flds _ rfl (.const (.slice none 0 0)) (.tmp 43) rfl (w_qlb.heap.size) (.slice none 0 0) [] Q rfl (OwnF.nil _ _) a nq cap rfl HNQ.out hcq.out.2 (T5.out.f.below N_qlb.out) (Nat.zero_le _) q65 (Nat.le_refl _) ?_
              intro v_qlba w_qlba hO hb
              rw [List.nil_append] at hO
              have N_qlba := box (N_qlb.out.trans (hb.mono N_qlb.out.size))
              have O_qlba := box hO
              have D_qlba := box hb.size
              have C_qlba := box (show w_qlba.cell? ⟨w5.drew.heap.size, 0, none⟩ = some (.string fn) ∧ w_qlba.cell? ⟨w5.drew.heap.size, 1, none⟩ = some (.string fv) from ⟨(hb.cell (cell_lt C_qlb.out.1)).trans C_qlb.out.1, (hb.cell (cell_lt C_qlb.out.2)).trans C_qlb.out.2⟩)
              clear hO hb
              refine hK.out _ _ ⟨(N_qlba.out.cell (cell_lt d00)).trans d00, (N_qlba.out.cell (cell_lt d01)).trans d01⟩ (fun hHeld => ?_)
              clear hK K
              try simp only [Act.put, List.setIfInBounds_toArray, List.set_cons_zero, List.set_cons_succ]
              refine wpAnyH_ready (rs := [5]) (by kernel_rfl) (by simp) ?_
              refine AllReadyH.cons (o := { dst := some 47, op := Op.call { callee := Callee.builtin Builtin.append, args := #[Operand.tmp 44, Operand.tmp 46], argTypes := #[22, 22] }, type := 22, pos := "law.go:47", after := #[{ on := 2, ground := Ground.data }, { on := 4, ground := Ground.data }, { on := 2, ground := Ground.chain }], guard := none }) rfl (fun K hK => ?_) AllReadyH.nil
              refine step_append_fld _ rfl (.tmp 44) (.tmp 46) rfl (w_qlb.heap.size) v_qlba Q rfl O_qlba.out _ _ rfl fn fv C_qlba.out.1 C_qlba.out.2 q65 ?d_qlba ?_
              case d_qlba => exact D_qlba.out
              intro v7 w7 hO7 hb7
              have BS7 := box (N_qlba.out.trans (hb7.mono N_qlb.out.size))
              have O7 : Box (OwnF w7 w5.heap.size v7 (Q ++ [(fn, fv)])) := box (Go.Joins.ownsRow_le hO7 N_qlb.out.size)
              clear hO7 hb7
              refine hK.out _ _ ⟨(BS7.out.cell (cell_lt d00)).trans d00, (BS7.out.cell (cell_lt d01)).trans d01⟩ (fun hHeld => ?_)
              clear hK K
              try simp only [Act.put, List.setIfInBounds_toArray, List.set_cons_zero, List.set_cons_succ]
              refine wpAnyH_take (i := 6) (oi := { dst := some 48, op := Op.fieldAddr 24 (Operand.tmp 4) 3, type := 0, pos := "law.go:47", after := #[{ on := 0, ground := Ground.phase }, { on := 1, ground := Ground.phase }, { on := 2, ground := Ground.phase }, { on := 3, ground := Ground.phase }, { on := 4, ground := Ground.phase }, { on := 5, ground := Ground.phase }], guard := none }) (v := ?v6x4q) rfl (by kernel_rfl) (by kernel_rfl) (by kernel_rfl) (fun _ _ _ h => h) (Or.inl ⟨by rfl, ?y6x4q⟩) (by assumption) ?r6x4q
              case y6x4q => (intro w hSw; (try dsimp only at hSw); go_simp; first | done | with_reducible rfl)
              try simp only [Act.put, List.setIfInBounds_toArray, List.set_cons_zero, List.set_cons_succ]
              obtain ⟨a7, c7, rfl, _, _⟩ := OwnF.fs O7.out
              rw [HN2.out] at O7
              rw [HN2.out]
              have CQ7 := T5.out.c.next BS7.out
              refine wpAnyH_ready (rs := [7]) (by kernel_rfl) (by simp) ?_
              refine AllReadyH.cons (o := { dst := none, op := Op.store 22 (Operand.tmp 48) (Operand.tmp 47), type := 0, pos := "law.go:47", after := #[{ on := 6, ground := Ground.data }, { on := 5, ground := Ground.data }, { on := 5, ground := Ground.chain }, { on := 0, ground := Ground.phase }, { on := 1, ground := Ground.phase }, { on := 2, ground := Ground.phase }, { on := 3, ground := Ground.phase }, { on := 4, ground := Ground.phase }, { on := 5, ground := Ground.phase }], guard := none }) rfl (fun K hK => ?_) AllReadyH.nil
              refine step_put24 _ rfl _ _ rfl _ _ _ a7 (nq + 1) c7 rfl rfl CQ7.1.2.2.2.1 CQ7.2.2.2.2.1 ?_
              intro v8
              have CQ8 := CQ7.set3 (.slice a7 (nq + 1) c7)
              have ON8 : Only w.heap.size w7 (w7.setCell ⟨w.heap.size, 3, none⟩ (.slice a7 (nq + 1) c7)) := (Only.refl _ _).setAt 3 _
              have CR8 := (T5.out.d.next BS7.out).only ON8 (by omega)
              have O8 := own_only O7.out ON8 (by omega)
              have B8 := box ((T5.out.b.trans (BS7.out.mono hs5)).setCell (p := ⟨w.heap.size, 3, none⟩) (Nat.le_refl _) (.slice a7 (nq + 1) c7))
              obtain ⟨w8, hw8⟩ : ∃ w8, w7.setCell ⟨w.heap.size, 3, none⟩ (.slice a7 (nq + 1) c7) = w8 := ⟨_, rfl⟩
              rw [hw8] at CQ8 ON8 CR8 O8 B8 ⊢
              refine hK.out _ _ ⟨(ON8.cell24 (h := w2.heap.size) (by omega) (cell_lt ((BS7.out.cell (cell_lt d00)).trans d00))).trans ((BS7.out.cell (cell_lt d00)).trans d00), (ON8.cell24 (h := w2.heap.size) (by omega) (cell_lt ((BS7.out.cell (cell_lt d01)).trans d01))).trans ((BS7.out.cell (cell_lt d01)).trans d01)⟩ (fun hHeld => ?_)
              clear hK K
              try simp only [Act.put, List.setIfInBounds_toArray, List.set_cons_zero, List.set_cons_succ]
              refine wpAnyH_done (by kernel_rfl) ?_ _
              obtain ⟨⟨c0, c1, c2, c3, c4⟩, _⟩ := CQ8
              obtain ⟨⟨x0, x1, x2, x3, x4⟩, _⟩ := CR8
              have F8 := box (own_fs24 O8)
              clear hHeld ON8 O8 CQ7 hw8 d00 d01 e0 e1 e2 e3 e4 f0 f1 f2 f3 f4
              go_wp2_with fail
              refine (mStor_is SQ VQ F8.out HN2 SL VL (L0.out.below B8.out) HNL (W0.out.below B8.out) HV).mono ?_; rintro e w9 ⟨rfl, hb9⟩
              have B9 := box (B8.out.trans (hb9.mono B8.out.size))
              clear hb9
              go_wp2_with fail
              refine (awake24_any _ (W0.out.below B9.out)).mono ?_; rintro e wa ⟨rfl, hba⟩
              have BA := box (B9.out.trans (hba.mono B9.out.size))
              clear hba
              go_wp2
              go_ret
              exact ⟨rfl, BA.out⟩
          · refine step_build24 _ rfl _ rfl fn fv rfl ?_
            intro w_qb hC hb
            have N_qb := box (N_q.out.trans (hb.mono N_q.out.size))
            have C_qb := box hC
            clear hC hb
            refine hK.out _ _ ⟨(N_qb.out.cell (cell_lt d00)).trans d00, (N_qb.out.cell (cell_lt d01)).trans d01⟩ (fun hHeld => ?_)
            clear hK K
            try simp only [Act.put, List.setIfInBounds_toArray, List.set_cons_zero, List.set_cons_succ]
            refine wpAnyH_ready (rs := [1]) (by kernel_rfl) (by simp) ?_
            refine AllReadyH.cons (o := { dst := some 43, op := Op.load 22 (Operand.tmp 42), type := 22, pos := "law.go:47", after := #[{ on := 0, ground := Ground.data }], guard := none }) rfl (fun K hK => ?_) AllReadyH.nil
            refine step_load24 _ rfl _ rfl _ _ _ rfl ((N_qb.out.cell (cell_lt e3)).trans e3) ?_
            have N_qbl := N_qb
            refine hK.out _ _ ⟨(N_qbl.out.cell (cell_lt d00)).trans d00, (N_qbl.out.cell (cell_lt d01)).trans d01⟩ (fun hHeld => ?_)
            clear hK K
            try simp only [Act.put, List.setIfInBounds_toArray, List.set_cons_zero, List.set_cons_succ]
            refine wpAnyH_ready (rs := [2]) (by kernel_rfl) (by simp) ?_
            refine AllReadyH.cons (o := { dst := some 44, op := Op.call { callee := Callee.builtin Builtin.append, args := #[Operand.const (Value.slice none 0 0), Operand.tmp 43], argTypes := #[22, 22] }, type := 22, pos := "law.go:47", after := #[{ on := 1, ground := Ground.data }], guard := none }) rfl (fun K hK => ?_) AllReadyH.nil
            refine step_append_flds _ rfl (.const (.slice none 0 0)) (.tmp 43) rfl (w_qb.heap.size) (.slice none 0 0) [] Q rfl (OwnF.nil _ _) a nq cap rfl HNQ.out hcq.out.2 (T5.out.f.below N_qbl.out) (Nat.zero_le _) q65 (Nat.le_refl _) ?_
            intro v_qbla w_qbla hO hb
            rw [List.nil_append] at hO
            have N_qbla := box (N_qbl.out.trans (hb.mono N_qbl.out.size))
            have O_qbla := box hO
            have D_qbla := box hb.size
            have C_qbla := box (show w_qbla.cell? ⟨w5.drew.heap.size, 0, none⟩ = some (.string fn) ∧ w_qbla.cell? ⟨w5.drew.heap.size, 1, none⟩ = some (.string fv) from ⟨(hb.cell (cell_lt C_qb.out.1)).trans C_qb.out.1, (hb.cell (cell_lt C_qb.out.2)).trans C_qb.out.2⟩)
            clear hO hb
            refine hK.out _ _ ⟨(N_qbla.out.cell (cell_lt d00)).trans d00, (N_qbla.out.cell (cell_lt d01)).trans d01⟩ (fun hHeld => ?_)
            clear hK K
            try simp only [Act.put, List.setIfInBounds_toArray, List.set_cons_zero, List.set_cons_succ]
            refine wpAnyH_ready (rs := [5]) (by kernel_rfl) (by simp) ?_
            refine AllReadyH.cons (o := { dst := some 47, op := Op.call { callee := Callee.builtin Builtin.append, args := #[Operand.tmp 44, Operand.tmp 46], argTypes := #[22, 22] }, type := 22, pos := "law.go:47", after := #[{ on := 2, ground := Ground.data }, { on := 4, ground := Ground.data }, { on := 2, ground := Ground.chain }], guard := none }) rfl (fun K hK => ?_) AllReadyH.nil
            refine step_append_fld _ rfl (.tmp 44) (.tmp 46) rfl (w_qb.heap.size) v_qbla Q rfl O_qbla.out _ _ rfl fn fv C_qbla.out.1 C_qbla.out.2 q65 ?d_qbla ?_
            case d_qbla => exact D_qbla.out
            intro v7 w7 hO7 hb7
            have BS7 := box (N_qbla.out.trans (hb7.mono N_qbl.out.size))
            have O7 : Box (OwnF w7 w5.heap.size v7 (Q ++ [(fn, fv)])) := box (Go.Joins.ownsRow_le hO7 N_qbl.out.size)
            clear hO7 hb7
            refine hK.out _ _ ⟨(BS7.out.cell (cell_lt d00)).trans d00, (BS7.out.cell (cell_lt d01)).trans d01⟩ (fun hHeld => ?_)
            clear hK K
            try simp only [Act.put, List.setIfInBounds_toArray, List.set_cons_zero, List.set_cons_succ]
            refine wpAnyH_take (i := 6) (oi := { dst := some 48, op := Op.fieldAddr 24 (Operand.tmp 4) 3, type := 0, pos := "law.go:47", after := #[{ on := 0, ground := Ground.phase }, { on := 1, ground := Ground.phase }, { on := 2, ground := Ground.phase }, { on := 3, ground := Ground.phase }, { on := 4, ground := Ground.phase }, { on := 5, ground := Ground.phase }], guard := none }) (v := ?v6x5q) rfl (by kernel_rfl) (by kernel_rfl) (by kernel_rfl) (fun _ _ _ h => h) (Or.inl ⟨by rfl, ?y6x5q⟩) (by assumption) ?r6x5q
            case y6x5q => (intro w hSw; (try dsimp only at hSw); go_simp; first | done | with_reducible rfl)
            try simp only [Act.put, List.setIfInBounds_toArray, List.set_cons_zero, List.set_cons_succ]
            obtain ⟨a7, c7, rfl, _, _⟩ := OwnF.fs O7.out
            rw [HN2.out] at O7
            rw [HN2.out]
            have CQ7 := T5.out.c.next BS7.out
            refine wpAnyH_ready (rs := [7]) (by kernel_rfl) (by simp) ?_
            refine AllReadyH.cons (o := { dst := none, op := Op.store 22 (Operand.tmp 48) (Operand.tmp 47), type := 0, pos := "law.go:47", after := #[{ on := 6, ground := Ground.data }, { on := 5, ground := Ground.data }, { on := 5, ground := Ground.chain }, { on := 0, ground := Ground.phase }, { on := 1, ground := Ground.phase }, { on := 2, ground := Ground.phase }, { on := 3, ground := Ground.phase }, { on := 4, ground := Ground.phase }, { on := 5, ground := Ground.phase }], guard := none }) rfl (fun K hK => ?_) AllReadyH.nil
            refine step_put24 _ rfl _ _ rfl _ _ _ a7 (nq + 1) c7 rfl rfl CQ7.1.2.2.2.1 CQ7.2.2.2.2.1 ?_
            intro v8
            have CQ8 := CQ7.set3 (.slice a7 (nq + 1) c7)
            have ON8 : Only w.heap.size w7 (w7.setCell ⟨w.heap.size, 3, none⟩ (.slice a7 (nq + 1) c7)) := (Only.refl _ _).setAt 3 _
            have CR8 := (T5.out.d.next BS7.out).only ON8 (by omega)
            have O8 := own_only O7.out ON8 (by omega)
            have B8 := box ((T5.out.b.trans (BS7.out.mono hs5)).setCell (p := ⟨w.heap.size, 3, none⟩) (Nat.le_refl _) (.slice a7 (nq + 1) c7))
            obtain ⟨w8, hw8⟩ : ∃ w8, w7.setCell ⟨w.heap.size, 3, none⟩ (.slice a7 (nq + 1) c7) = w8 := ⟨_, rfl⟩
            rw [hw8] at CQ8 ON8 CR8 O8 B8 ⊢
            refine hK.out _ _ ⟨(ON8.cell24 (h := w2.heap.size) (by omega) (cell_lt ((BS7.out.cell (cell_lt d00)).trans d00))).trans ((BS7.out.cell (cell_lt d00)).trans d00), (ON8.cell24 (h := w2.heap.size) (by omega) (cell_lt ((BS7.out.cell (cell_lt d01)).trans d01))).trans ((BS7.out.cell (cell_lt d01)).trans d01)⟩ (fun hHeld => ?_)
            clear hK K
            try simp only [Act.put, List.setIfInBounds_toArray, List.set_cons_zero, List.set_cons_succ]
            refine wpAnyH_done (by kernel_rfl) ?_ _
            obtain ⟨⟨c0, c1, c2, c3, c4⟩, _⟩ := CQ8
            obtain ⟨⟨x0, x1, x2, x3, x4⟩, _⟩ := CR8
            have F8 := box (own_fs24 O8)
            clear hHeld ON8 O8 CQ7 hw8 d00 d01 e0 e1 e2 e3 e4 f0 f1 f2 f3 f4
            go_wp2_with fail
            refine (mStor_is SQ VQ F8.out HN2 SL VL (L0.out.below B8.out) HNL (W0.out.below B8.out) HV).mono ?_; rintro e w9 ⟨rfl, hb9⟩
            have B9 := box (B8.out.trans (hb9.mono B8.out.size))
            clear hb9
            go_wp2_with fail
            refine (awake24_any _ (W0.out.below B9.out)).mono ?_; rintro e wa ⟨rfl, hba⟩
            have BA := box (B9.out.trans (hba.mono B9.out.size))
            clear hba
            go_wp2
            go_ret
            exact ⟨rfl, BA.out⟩
set_option maxHeartbeats 8000000 in
theorem never24_res0 (m t : ByteArray) (n : Int) (a : Option Addr) (cap nq : Nat) (Q : List F) (b : ByteArray) (kk s : Int) (r : ByteArray) (a' : Option Addr) (cap' nl : Nat) (L : List F) (c : ByteArray) (z p : Int) (w : World)
    (hm : Box (m.size ≤ maxLen)) (ht : Box (t.size ≤ maxLen)) (hQl : Box (Q.length ≤ maxLen)) (hQ : Fs w a Q) (hb : Box (b.size ≤ maxLen)) (hcq : Box (Q.length ≤ cap ∧ (a = none → cap = 0))) (hr : Box (r.size ≤ maxLen)) (hLl : Box (L.length ≤ maxLen)) (hL : Fs w a' L) (hc : Box (c.size ≤ maxLen)) (hcl : Box (L.length ≤ cap' ∧ (a' = none → cap' = 0))) (HNQ : Box (Q.length = nq)) (HNL : Box (L.length = nl)) (hW : Tabs w) (hz : bits .and .i64 z 3 = 0) :
    Calls Tryd.prog 3 #[.agg #[.string m, .string t, .int .i64 n, .slice a nq cap, .string b], .agg #[.int .i64 kk, .int .i64 s, .string r, .slice a' nl cap', .string c], .int .i64 z, .int .i64 p] w fun e w' => e = .returned (.bool true) ∧ Below w.heap.size w w' := by
  have T0 := box (Two.new (w := w) (c0 := .string m) (c1 := .string t) (c2 := .int .i64 n) (c3 := .slice a nq cap) (c4 := .string b) (d0 := .int .i64 kk) (d1 := .int .i64 s) (d2 := .string r) (d3 := .slice a' nl cap') (d4 := .string c) 24 26 hQ hL)
  have W0 := box hW
  have Q0 := box hQ
  have L0 := box hL
  clear hQ hL hW
  go_enter Tryd.func3, Tryd.ntmps3
  go_wp2_with fail
  refine (kReq24_is hm.out ht.out hb.out hQl T0.out.f HNQ).mono ?_; rintro e w1 ⟨⟨q1, rfl, hq1⟩, hb1⟩
  have T1 := box (T0.out.next hb1)
  clear hb1
  cases q1 with
  | false =>
    go_wp2
    go_ret
    exact ⟨rfl, T1.out.b⟩
  | true =>
    obtain ⟨e0, e1, e2, e3, e4, f0, f1, f2, f3, f4⟩ := T1.out.cells
    go_wp2_with fail
    refine (kRes24_is hr.out hc.out hLl T1.out.g HNL).mono ?_; rintro e w2 ⟨⟨q2, rfl, hq2⟩, hb2⟩
    have T2 := box (T1.out.next hb2)
    clear hb2 e0 e1 e2 e3 e4 f0 f1 f2 f3 f4
    cases q2 with
    | false =>
      go_wp2
      go_ret
      exact ⟨rfl, T2.out.b⟩
    | true =>
      have KQ := box (hq1 (by simp)).2.2.1
      have KL := box (hq2 (by simp)).2.1
      clear hq1 hq2
      obtain ⟨e0, e1, e2, e3, e4, f0, f1, f2, f3, f4⟩ := T2.out.cells
      by_cases hp0 : p < 0
      · go_wp2
        go_ret
        exact ⟨rfl, T2.out.b⟩
      · by_cases hp1 : (nl : Int) < p
        · go_wp2
          go_ret
          exact ⟨rfl, T2.out.b⟩
        · obtain ⟨k, rfl⟩ : ∃ k : Nat, p = k := ⟨p.toNat, by omega⟩
          have hkn : k ≤ nl := by omega
          obtain ⟨fn, hfn⟩ : ∃ fn : ByteArray, ccL = fn := ⟨_, rfl⟩
          obtain ⟨fv, hfv⟩ : ∃ fv : ByteArray, nsV24 = fv := ⟨_, rfl⟩
          have hfz : fn.size ≤ 300 ∧ fv.size ≤ 300 := by rw [← hfn, ← hfv]; decide
          have q7 := (keep_parts KQ.out).1
          have l7 := (keep_parts KL.out).1
          obtain ⟨w5, hw5⟩ : ∃ w5, w2.alloc (.cells #[.string fn, .string fv] 30) = w5 := ⟨_, rfl⟩
          have HW5 := box hw5
          have T5 := box (show Two w (.string m) (.string t) (.int .i64 n) (.slice a nq cap) (.string b) (.int .i64 kk) (.int .i64 s) (.string r) (.slice a' nl cap') (.string c) a a' Q L w5 from by rw [← hw5]; exact T2.out.next (below_new _ _))
          have d00 : w5.cell? ⟨w2.heap.size, 0, none⟩ = some (.string fn) := by rw [← hw5, World.cell?_alloc_mark]; rfl
          have d01 : w5.cell? ⟨w2.heap.size, 1, none⟩ = some (.string fv) := by rw [← hw5, World.cell?_alloc_mark]; rfl
          have HFN := box hfn
          have HFV := box hfv
          clear hw5 hfn hfv
          have BS0 := box ((Below.refl w5.heap.size w5).drew)
          have hs5 := T5.out.b.size
          have hg5 : w.heap.size + 1 < w5.heap.size := T5.out.d.lt
          have hg2 : w.heap.size + 1 < w2.heap.size := T2.out.d.lt
          have q65 : Q.length ≤ 65536 := by omega
          have l65 : L.length ≤ 65536 := by omega
          have HV : Box (storV m.data.toList s Q (L.take k ++ (fn, fv) :: L.drop k) = false) := box (by rw [← HFN.out, ← HFV.out]; exact never_ns _ _ _ _ _)
          have SV := sm_put (A := L.take k) (B := L.drop k) (n := fn) (v := fv) (fun x h => keep_mem KL.out x (List.mem_of_mem_take h)) (fun x h => keep_mem KL.out x (List.mem_of_mem_drop h)) (by rw [List.length_take, List.length_drop]; omega) hfz.1 hfz.2
          have SL := box SV.1
          have VL := box SV.2
          have SQ := box (keep_sm7 KQ.out)
          have VQ := box (keep_get KQ.out)
          have HN2 : Box ((L.take k ++ (fn, fv) :: L.drop k).length = nl + 1) := box (by rw [List.length_append, List.length_cons, List.length_take, List.length_drop, HNL.out]; omega)
          have HTK : Box ((L.take k).length = k) := box (by rw [List.length_take, HNL.out]; omega)
          have HDK : Box ((L.drop k).length = nl - k) := box (by rw [List.length_drop, HNL.out])
          have t65 : (L.take k).length ≤ 65536 := by rw [HTK.out]; have := HNL.out; omega
          have t66 : (L.take k ++ [(fn, fv)]).length ≤ 65536 := by rw [List.length_append, HTK.out]; have := HNL.out; show k + 1 ≤ 65536; omega
          have d65 : (L.drop k).length ≤ 65536 := by rw [HDK.out]; have := HNL.out; omega
          have hcl2 : nl ≤ cap' ∧ (a' = none → cap' = 0) := by rw [← HNL.out]; exact hcl.out
          have hkc : (k : Int) ≤ (cap' : Int) := by have := hcl2.1; omega
          have hhi := fun w => run_hi24 (a := a') (n := nl) (show k ≤ cap' by have := hcl2.1; omega) w
          obtain ⟨pl, cl, hlo, hpl, hFl⟩ := fld_lo (k := k) L0.out HNL.out hcl2.1 hcl2.2 hkn
          have HPL := box hpl
          have FL := box hFl
          have hnkI : (0 : Int) ≤ (k : Int) := by omega
          have HLO := box hlo
          have HC2 := box hcl2
          clear SV q7 l7 hfz hpl hFl hlo hcl2
          go_wp2
          rw [show (⟨#[99, 97, 99, 104, 101, 45, 99, 111, 110, 116, 114, 111, 108]⟩ : ByteArray) = fn from HFN.out, show (⟨#[78, 111, 45, 83, 116, 111, 114, 101]⟩ : ByteArray) = fv from HFV.out, HW5.out]
          clear e0 e1 e2 e3 e4 f0 f1 f2 f3 f4
          obtain ⟨e0, e1, e2, e3, e4, f0, f1, f2, f3, f4⟩ := T5.out.cells
          refine wp_region_held_drew (S := (fun w' : World => (w'.cell? ⟨w.heap.size + 1, 3, none⟩ = some (.slice a' nl cap') ∧ w'.cell? ⟨w2.heap.size, 0, none⟩ = some (.string fn) ∧ w'.cell? ⟨w2.heap.size, 1, none⟩ = some (.string fv)) ∧ Box (Below w5.heap.size w5 w'))) (by kernel_rfl) ⟨⟨f3, d00, d01⟩, box BS0.out⟩ (fun hHeld => ?_)
          have N_r0 := BS0
          refine wpAnyH_take (i := 0) (oi := { dst := some 49, op := Op.fieldAddr 26 (Operand.tmp 5) 3, type := 0, pos := "law.go:49", after := #[], guard := none }) (v := ?v0x1r0) rfl (by kernel_rfl) (by kernel_rfl) (by kernel_rfl) (fun _ _ _ h => h) (Or.inl ⟨by rfl, ?y0x1r0⟩) (by assumption) ?r0x1r0
          case y0x1r0 => (intro w hSw; (try dsimp only at hSw); go_simp; first | done | with_reducible rfl)
          try simp only [Act.put, List.setIfInBounds_toArray, List.set_cons_zero, List.set_cons_succ]
          refine wpAnyH_take (i := 1) (oi := { dst := some 50, op := Op.load 22 (Operand.tmp 49), type := 22, pos := "law.go:49", after := #[{ on := 0, ground := Ground.data }], guard := none }) (v := ?v1x2r0) rfl (by kernel_rfl) (by kernel_rfl) (by kernel_rfl) (fun _ _ _ h => h) (Or.inl ⟨by rfl, ?y1x2r0⟩) (by assumption) ?r1x2r0
          case y1x2r0 => (intro w hSw; (try dsimp only at hSw); go_simp; first | done | with_reducible rfl)
          try simp only [Act.put, List.setIfInBounds_toArray, List.set_cons_zero, List.set_cons_succ]
          refine wpAnyH_take (i := 2) (oi := { dst := some 51, op := Op.move (Operand.tmp 3), type := 3, pos := "law.go:49", after := #[], guard := none }) (v := ?v2x3r0) rfl (by kernel_rfl) (by kernel_rfl) (by kernel_rfl) (fun _ _ _ h => h) (Or.inl ⟨by rfl, ?y2x3r0⟩) (by assumption) ?r2x3r0
          case y2x3r0 => (intro w hSw; (try dsimp only at hSw); go_simp; first | done | with_reducible rfl)
          try simp only [Act.put, List.setIfInBounds_toArray, List.set_cons_zero, List.set_cons_succ]
          refine wpAnyH_take (i := 3) (oi := { dst := some 52, op := Op.slice 22 (Operand.tmp 50) none (some (Operand.tmp 51)) none, type := 22, pos := "law.go:49", after := #[{ on := 1, ground := Ground.data }, { on := 2, ground := Ground.data }], guard := none }) (v := ?v3x4r0) rfl (by kernel_rfl) (by kernel_rfl) (by kernel_rfl) (fun _ _ _ h => h) (Or.inl ⟨by rfl, ?y3x4r0⟩) (by assumption) ?r3x4r0
          case y3x4r0 => (intro w hSw; (try dsimp only at hSw); go_simp; first | done | with_reducible rfl)
          try simp only [Act.put, List.setIfInBounds_toArray, List.set_cons_zero, List.set_cons_succ]
          refine wpAnyH_take (i := 5) (oi := { dst := some 54, op := Op.load 30 (Operand.tmp 9), type := 30, pos := "law.go:49", after := #[], guard := none }) (v := ?v5x5r0) rfl (by kernel_rfl) (by kernel_rfl) (by kernel_rfl) (fun _ _ _ h => h) (Or.inl ⟨by rfl, ?y5x5r0⟩) (by assumption) ?r5x5r0
          case y5x5r0 => (intro w hSw; (try dsimp only at hSw); go_simp; first | done | with_reducible rfl)
          try simp only [Act.put, List.setIfInBounds_toArray, List.set_cons_zero, List.set_cons_succ]
          refine wpAnyH_ready (rs := [4, 6]) (by kernel_rfl) (by simp) ?_
          refine AllReadyH.cons (o := { dst := some 53, op := Op.call { callee := Callee.builtin Builtin.append, args := #[Operand.const (Value.slice none 0 0), Operand.tmp 52], argTypes := #[22, 22] }, type := 22, pos := "law.go:49", after := #[{ on := 3, ground := Ground.data }], guard := none }) rfl (fun K hK => ?_) (AllReadyH.cons (o := { dst := some 55, op := Op.buildSlice 22 1 #[(0, Operand.tmp 54)], type := 22, pos := "law.go:49", after := #[{ on := 5, ground := Ground.data }], guard := none }) rfl (fun K hK => ?_) AllReadyH.nil)
          · refine step_append_flds _ rfl (.const (.slice none 0 0)) (.tmp 52) rfl (w5.drew.heap.size) (.slice none 0 0) [] (L.take k) rfl (OwnF.nil _ _) a' k cap' rfl HTK.out HC2.out.2 ((T5.out.g.take17 k).below N_r0.out) (Nat.zero_le _) t65 (Nat.le_refl _) ?_
            intro v_r0a w_r0a hO hb
            rw [List.nil_append] at hO
            have N_r0a := box (N_r0.out.trans (hb.mono N_r0.out.size))
            have O_r0a := box hO
            have D_r0a := box hb.size
            clear hO hb
            refine hK.out _ _ ⟨⟨(N_r0a.out.cell (cell_lt f3)).trans f3, (N_r0a.out.cell (cell_lt d00)).trans d00, (N_r0a.out.cell (cell_lt d01)).trans d01⟩, N_r0a⟩ (fun hHeld => ?_)
            clear hK K
            try simp only [Act.put, List.setIfInBounds_toArray, List.set_cons_zero, List.set_cons_succ]
            refine wpAnyH_ready (rs := [6]) (by kernel_rfl) (by simp) ?_
            refine AllReadyH.cons (o := { dst := some 55, op := Op.buildSlice 22 1 #[(0, Operand.tmp 54)], type := 22, pos := "law.go:49", after := #[{ on := 5, ground := Ground.data }], guard := none }) rfl (fun K hK => ?_) AllReadyH.nil
            refine step_build24 _ rfl _ rfl fn fv rfl ?_
            intro w_r0ab hC hb
            have N_r0ab := box (N_r0a.out.trans (hb.mono N_r0a.out.size))
            have C_r0ab := box hC
            have O_r0ab := box (own_below O_r0a.out hb)
            have D_r0ab := box (Nat.le_trans D_r0a.out hb.size)
            clear hC hb
            refine hK.out _ _ ⟨⟨(N_r0ab.out.cell (cell_lt f3)).trans f3, (N_r0ab.out.cell (cell_lt d00)).trans d00, (N_r0ab.out.cell (cell_lt d01)).trans d01⟩, N_r0ab⟩ (fun hHeld => ?_)
            clear hK K
            try simp only [Act.put, List.setIfInBounds_toArray, List.set_cons_zero, List.set_cons_succ]
            refine wpAnyH_ready (rs := [7]) (by kernel_rfl) (by simp) ?_
            refine AllReadyH.cons (o := { dst := some 56, op := Op.call { callee := Callee.builtin Builtin.append, args := #[Operand.tmp 53, Operand.tmp 55], argTypes := #[22, 22] }, type := 22, pos := "law.go:49", after := #[{ on := 4, ground := Ground.data }, { on := 6, ground := Ground.data }, { on := 4, ground := Ground.chain }], guard := none }) rfl (fun K hK => ?_) AllReadyH.nil
            refine step_append_fld _ rfl (.tmp 53) (.tmp 55) rfl (w5.drew.heap.size) v_r0a (L.take k) rfl O_r0ab.out _ _ rfl fn fv C_r0ab.out.1 C_r0ab.out.2 t65 ?d_r0ab ?_
            case d_r0ab => exact D_r0ab.out
            intro v7 w7 hO7 hb7
            have BS7 := box (N_r0ab.out.trans (hb7.mono N_r0.out.size))
            have O7 : Box (OwnF w7 w5.heap.size v7 ((L.take k) ++ [(fn, fv)])) := box (Go.Joins.ownsRow_le hO7 N_r0.out.size)
            clear hO7 hb7
            refine hK.out _ _ ⟨⟨(BS7.out.cell (cell_lt f3)).trans f3, (BS7.out.cell (cell_lt d00)).trans d00, (BS7.out.cell (cell_lt d01)).trans d01⟩, BS7⟩ (fun hHeld => ?_)
            clear hK K
            try simp only [Act.put, List.setIfInBounds_toArray, List.set_cons_zero, List.set_cons_succ]
            refine wpAnyH_take (i := 8) (oi := { dst := some 10, op := Op.assign (Operand.tmp 56), type := 22, pos := "law.go:49", after := #[{ on := 7, ground := Ground.data }, { on := 7, ground := Ground.chain }, { on := 0, ground := Ground.phase }, { on := 1, ground := Ground.phase }, { on := 2, ground := Ground.phase }, { on := 3, ground := Ground.phase }, { on := 4, ground := Ground.phase }, { on := 5, ground := Ground.phase }, { on := 6, ground := Ground.phase }, { on := 7, ground := Ground.phase }], guard := none }) (v := ?v8x6r0) rfl (by kernel_rfl) (by kernel_rfl) (by kernel_rfl) (fun _ _ _ h => h) (Or.inl ⟨by rfl, ?y8x6r0⟩) (by assumption) ?r8x6r0
            case y8x6r0 => (intro w hSw; (try dsimp only at hSw); go_simp; first | done | with_reducible rfl)
            try simp only [Act.put, List.setIfInBounds_toArray, List.set_cons_zero, List.set_cons_succ]
            refine wpAnyH_done (by kernel_rfl) ?_ _
            have hlo := HLO.out
            clear hhi hHeld
            have TB := T5.out.next BS7.out
            have f37 := TB.d.1.2.2.2.1
            have z37 := TB.d.2.2.2.2.1
            clear d00 d01 e0 e1 e2 e3 e4 f0 f1 f2 f3 f4
            go_wp2_with (at_builtin; refine wpList_append_flds17 _ rfl (.tmp 57) (.tmp 61) rfl w5.heap.size v7 (L.take k ++ [(fn, fv)]) (L.drop k) rfl O7.out pl (nl - k) cl rfl HDK.out HPL.out (FL.out.below (TB.b)) t66 d65 BS7.out.size ?_; intro v8 w8 hO8 hb8; obtain ⟨a8, c8, rfl, _, _⟩ := OwnF.fs hO8; rw [show (L.take k ++ [(fn, fv)]) ++ L.drop k = L.take k ++ (fn, fv) :: L.drop k from by simp, HN2.out] at hO8; have O8 := box hO8; rw [show ((L.take k ++ [(fn, fv)]) ++ L.drop k).length = nl + 1 from by rw [← HN2.out]; simp]; have BS8 := box (BS7.out.trans hb8); have TC := T5.out.next BS8.out; obtain ⟨⟨y0, y1, y2, y3, y4⟩, _⟩ := TC.c; obtain ⟨⟨x0, x1, x2, x3, x4⟩, ⟨_, _, _, z38, _⟩⟩ := TC.d; clear hO8 hb8 f37 z37 hlo)
            have ON8 : Only (w.heap.size + 1) w8 (w8.setCell ⟨w.heap.size + 1, 3, none⟩ (.slice a8 (nl + 1) c8)) := (Only.refl _ _).setAt 3 _
            have F8 := box (own_fs24 (own_only O8.out ON8 (by omega)))
            have B8 := box ((T5.out.b.trans (BS8.out.mono hs5)).setCell (p := ⟨w.heap.size + 1, 3, none⟩) (Nat.le_succ _) (.slice a8 (nl + 1) c8))
            clear ON8 y0 y1 y2 y3 y4 x0 x1 x2 x3 x4 z38
            refine (mStor_is SQ VQ (Q0.out.below B8.out) HNQ SL VL F8.out HN2 (W0.out.below B8.out) HV).mono ?_; rintro e w9 ⟨rfl, hb9⟩
            have B9 := box (B8.out.trans (hb9.mono B8.out.size))
            clear hb9
            go_wp2_with fail
            refine (awake24_any _ (W0.out.below B9.out)).mono ?_; rintro e wa ⟨rfl, hba⟩
            have BA := box (B9.out.trans (hba.mono B9.out.size))
            clear hba
            go_wp2
            go_ret
            exact ⟨rfl, BA.out⟩
          · refine step_build24 _ rfl _ rfl fn fv rfl ?_
            intro w_r0b hC hb
            have N_r0b := box (N_r0.out.trans (hb.mono N_r0.out.size))
            have C_r0b := box hC
            clear hC hb
            refine hK.out _ _ ⟨⟨(N_r0b.out.cell (cell_lt f3)).trans f3, (N_r0b.out.cell (cell_lt d00)).trans d00, (N_r0b.out.cell (cell_lt d01)).trans d01⟩, N_r0b⟩ (fun hHeld => ?_)
            clear hK K
            try simp only [Act.put, List.setIfInBounds_toArray, List.set_cons_zero, List.set_cons_succ]
            refine wpAnyH_ready (rs := [4]) (by kernel_rfl) (by simp) ?_
            refine AllReadyH.cons (o := { dst := some 53, op := Op.call { callee := Callee.builtin Builtin.append, args := #[Operand.const (Value.slice none 0 0), Operand.tmp 52], argTypes := #[22, 22] }, type := 22, pos := "law.go:49", after := #[{ on := 3, ground := Ground.data }], guard := none }) rfl (fun K hK => ?_) AllReadyH.nil
            refine step_append_flds _ rfl (.const (.slice none 0 0)) (.tmp 52) rfl (w_r0b.heap.size) (.slice none 0 0) [] (L.take k) rfl (OwnF.nil _ _) a' k cap' rfl HTK.out HC2.out.2 ((T5.out.g.take17 k).below N_r0b.out) (Nat.zero_le _) t65 (Nat.le_refl _) ?_
            intro v_r0ba w_r0ba hO hb
            rw [List.nil_append] at hO
            have N_r0ba := box (N_r0b.out.trans (hb.mono N_r0b.out.size))
            have O_r0ba := box hO
            have D_r0ba := box hb.size
            have C_r0ba := box (show w_r0ba.cell? ⟨w5.drew.heap.size, 0, none⟩ = some (.string fn) ∧ w_r0ba.cell? ⟨w5.drew.heap.size, 1, none⟩ = some (.string fv) from ⟨(hb.cell (cell_lt C_r0b.out.1)).trans C_r0b.out.1, (hb.cell (cell_lt C_r0b.out.2)).trans C_r0b.out.2⟩)
            clear hO hb
            refine hK.out _ _ ⟨⟨(N_r0ba.out.cell (cell_lt f3)).trans f3, (N_r0ba.out.cell (cell_lt d00)).trans d00, (N_r0ba.out.cell (cell_lt d01)).trans d01⟩, N_r0ba⟩ (fun hHeld => ?_)
            clear hK K
            try simp only [Act.put, List.setIfInBounds_toArray, List.set_cons_zero, List.set_cons_succ]
            refine wpAnyH_ready (rs := [7]) (by kernel_rfl) (by simp) ?_
            refine AllReadyH.cons (o := { dst := some 56, op := Op.call { callee := Callee.builtin Builtin.append, args := #[Operand.tmp 53, Operand.tmp 55], argTypes := #[22, 22] }, type := 22, pos := "law.go:49", after := #[{ on := 4, ground := Ground.data }, { on := 6, ground := Ground.data }, { on := 4, ground := Ground.chain }], guard := none }) rfl (fun K hK => ?_) AllReadyH.nil
            refine step_append_fld _ rfl (.tmp 53) (.tmp 55) rfl (w_r0b.heap.size) v_r0ba (L.take k) rfl O_r0ba.out _ _ rfl fn fv C_r0ba.out.1 C_r0ba.out.2 t65 ?d_r0ba ?_
            case d_r0ba => exact D_r0ba.out
            intro v7 w7 hO7 hb7
            have BS7 := box (N_r0ba.out.trans (hb7.mono N_r0b.out.size))
            have O7 : Box (OwnF w7 w5.heap.size v7 ((L.take k) ++ [(fn, fv)])) := box (Go.Joins.ownsRow_le hO7 N_r0b.out.size)
            clear hO7 hb7
            refine hK.out _ _ ⟨⟨(BS7.out.cell (cell_lt f3)).trans f3, (BS7.out.cell (cell_lt d00)).trans d00, (BS7.out.cell (cell_lt d01)).trans d01⟩, BS7⟩ (fun hHeld => ?_)
            clear hK K
            try simp only [Act.put, List.setIfInBounds_toArray, List.set_cons_zero, List.set_cons_succ]
            refine wpAnyH_take (i := 8) (oi := { dst := some 10, op := Op.assign (Operand.tmp 56), type := 22, pos := "law.go:49", after := #[{ on := 7, ground := Ground.data }, { on := 7, ground := Ground.chain }, { on := 0, ground := Ground.phase }, { on := 1, ground := Ground.phase }, { on := 2, ground := Ground.phase }, { on := 3, ground := Ground.phase }, { on := 4, ground := Ground.phase }, { on := 5, ground := Ground.phase }, { on := 6, ground := Ground.phase }, { on := 7, ground := Ground.phase }], guard := none }) (v := ?v8x7r0) rfl (by kernel_rfl) (by kernel_rfl) (by kernel_rfl) (fun _ _ _ h => h) (Or.inl ⟨by rfl, ?y8x7r0⟩) (by assumption) ?r8x7r0
            case y8x7r0 => (intro w hSw; (try dsimp only at hSw); go_simp; first | done | with_reducible rfl)
            try simp only [Act.put, List.setIfInBounds_toArray, List.set_cons_zero, List.set_cons_succ]
            refine wpAnyH_done (by kernel_rfl) ?_ _
            have hlo := HLO.out
            clear hhi hHeld
            have TB := T5.out.next BS7.out
            have f37 := TB.d.1.2.2.2.1
            have z37 := TB.d.2.2.2.2.1
            clear d00 d01 e0 e1 e2 e3 e4 f0 f1 f2 f3 f4
            go_wp2_with (at_builtin; refine wpList_append_flds17 _ rfl (.tmp 57) (.tmp 61) rfl w5.heap.size v7 (L.take k ++ [(fn, fv)]) (L.drop k) rfl O7.out pl (nl - k) cl rfl HDK.out HPL.out (FL.out.below (TB.b)) t66 d65 BS7.out.size ?_; intro v8 w8 hO8 hb8; obtain ⟨a8, c8, rfl, _, _⟩ := OwnF.fs hO8; rw [show (L.take k ++ [(fn, fv)]) ++ L.drop k = L.take k ++ (fn, fv) :: L.drop k from by simp, HN2.out] at hO8; have O8 := box hO8; rw [show ((L.take k ++ [(fn, fv)]) ++ L.drop k).length = nl + 1 from by rw [← HN2.out]; simp]; have BS8 := box (BS7.out.trans hb8); have TC := T5.out.next BS8.out; obtain ⟨⟨y0, y1, y2, y3, y4⟩, _⟩ := TC.c; obtain ⟨⟨x0, x1, x2, x3, x4⟩, ⟨_, _, _, z38, _⟩⟩ := TC.d; clear hO8 hb8 f37 z37 hlo)
            have ON8 : Only (w.heap.size + 1) w8 (w8.setCell ⟨w.heap.size + 1, 3, none⟩ (.slice a8 (nl + 1) c8)) := (Only.refl _ _).setAt 3 _
            have F8 := box (own_fs24 (own_only O8.out ON8 (by omega)))
            have B8 := box ((T5.out.b.trans (BS8.out.mono hs5)).setCell (p := ⟨w.heap.size + 1, 3, none⟩) (Nat.le_succ _) (.slice a8 (nl + 1) c8))
            clear ON8 y0 y1 y2 y3 y4 x0 x1 x2 x3 x4 z38
            refine (mStor_is SQ VQ (Q0.out.below B8.out) HNQ SL VL F8.out HN2 (W0.out.below B8.out) HV).mono ?_; rintro e w9 ⟨rfl, hb9⟩
            have B9 := box (B8.out.trans (hb9.mono B8.out.size))
            clear hb9
            go_wp2_with fail
            refine (awake24_any _ (W0.out.below B9.out)).mono ?_; rintro e wa ⟨rfl, hba⟩
            have BA := box (B9.out.trans (hba.mono B9.out.size))
            clear hba
            go_wp2
            go_ret
            exact ⟨rfl, BA.out⟩
set_option maxHeartbeats 8000000 in
theorem never24_res1 (m t : ByteArray) (n : Int) (a : Option Addr) (cap nq : Nat) (Q : List F) (b : ByteArray) (kk s : Int) (r : ByteArray) (a' : Option Addr) (cap' nl : Nat) (L : List F) (c : ByteArray) (z p : Int) (w : World)
    (hm : Box (m.size ≤ maxLen)) (ht : Box (t.size ≤ maxLen)) (hQl : Box (Q.length ≤ maxLen)) (hQ : Fs w a Q) (hb : Box (b.size ≤ maxLen)) (hcq : Box (Q.length ≤ cap ∧ (a = none → cap = 0))) (hr : Box (r.size ≤ maxLen)) (hLl : Box (L.length ≤ maxLen)) (hL : Fs w a' L) (hc : Box (c.size ≤ maxLen)) (hcl : Box (L.length ≤ cap' ∧ (a' = none → cap' = 0))) (HNQ : Box (Q.length = nq)) (HNL : Box (L.length = nl)) (hW : Tabs w) (hz : bits .and .i64 z 3 = 1) :
    Calls Tryd.prog 3 #[.agg #[.string m, .string t, .int .i64 n, .slice a nq cap, .string b], .agg #[.int .i64 kk, .int .i64 s, .string r, .slice a' nl cap', .string c], .int .i64 z, .int .i64 p] w fun e w' => e = .returned (.bool true) ∧ Below w.heap.size w w' := by
  have T0 := box (Two.new (w := w) (c0 := .string m) (c1 := .string t) (c2 := .int .i64 n) (c3 := .slice a nq cap) (c4 := .string b) (d0 := .int .i64 kk) (d1 := .int .i64 s) (d2 := .string r) (d3 := .slice a' nl cap') (d4 := .string c) 24 26 hQ hL)
  have W0 := box hW
  have Q0 := box hQ
  have L0 := box hL
  clear hQ hL hW
  go_enter Tryd.func3, Tryd.ntmps3
  go_wp2_with fail
  refine (kReq24_is hm.out ht.out hb.out hQl T0.out.f HNQ).mono ?_; rintro e w1 ⟨⟨q1, rfl, hq1⟩, hb1⟩
  have T1 := box (T0.out.next hb1)
  clear hb1
  cases q1 with
  | false =>
    go_wp2
    go_ret
    exact ⟨rfl, T1.out.b⟩
  | true =>
    obtain ⟨e0, e1, e2, e3, e4, f0, f1, f2, f3, f4⟩ := T1.out.cells
    go_wp2_with fail
    refine (kRes24_is hr.out hc.out hLl T1.out.g HNL).mono ?_; rintro e w2 ⟨⟨q2, rfl, hq2⟩, hb2⟩
    have T2 := box (T1.out.next hb2)
    clear hb2 e0 e1 e2 e3 e4 f0 f1 f2 f3 f4
    cases q2 with
    | false =>
      go_wp2
      go_ret
      exact ⟨rfl, T2.out.b⟩
    | true =>
      have KQ := box (hq1 (by simp)).2.2.1
      have KL := box (hq2 (by simp)).2.1
      clear hq1 hq2
      obtain ⟨e0, e1, e2, e3, e4, f0, f1, f2, f3, f4⟩ := T2.out.cells
      by_cases hp0 : p < 0
      · go_wp2
        go_ret
        exact ⟨rfl, T2.out.b⟩
      · by_cases hp1 : (nl : Int) < p
        · go_wp2
          go_ret
          exact ⟨rfl, T2.out.b⟩
        · obtain ⟨k, rfl⟩ : ∃ k : Nat, p = k := ⟨p.toNat, by omega⟩
          have hkn : k ≤ nl := by omega
          obtain ⟨fn, hfn⟩ : ∃ fn : ByteArray, ccL = fn := ⟨_, rfl⟩
          obtain ⟨fv, hfv⟩ : ∃ fv : ByteArray, pvV = fv := ⟨_, rfl⟩
          have hfz : fn.size ≤ 300 ∧ fv.size ≤ 300 := by rw [← hfn, ← hfv]; decide
          have q7 := (keep_parts KQ.out).1
          have l7 := (keep_parts KL.out).1
          obtain ⟨w5, hw5⟩ : ∃ w5, w2.alloc (.cells #[.string fn, .string fv] 30) = w5 := ⟨_, rfl⟩
          have HW5 := box hw5
          have T5 := box (show Two w (.string m) (.string t) (.int .i64 n) (.slice a nq cap) (.string b) (.int .i64 kk) (.int .i64 s) (.string r) (.slice a' nl cap') (.string c) a a' Q L w5 from by rw [← hw5]; exact T2.out.next (below_new _ _))
          have d00 : w5.cell? ⟨w2.heap.size, 0, none⟩ = some (.string fn) := by rw [← hw5, World.cell?_alloc_mark]; rfl
          have d01 : w5.cell? ⟨w2.heap.size, 1, none⟩ = some (.string fv) := by rw [← hw5, World.cell?_alloc_mark]; rfl
          have HFN := box hfn
          have HFV := box hfv
          clear hw5 hfn hfv
          have BS0 := box ((Below.refl w5.heap.size w5).drew)
          have hs5 := T5.out.b.size
          have hg5 : w.heap.size + 1 < w5.heap.size := T5.out.d.lt
          have hg2 : w.heap.size + 1 < w2.heap.size := T2.out.d.lt
          have q65 : Q.length ≤ 65536 := by omega
          have l65 : L.length ≤ 65536 := by omega
          have HV : Box (storV m.data.toList s Q (L.take k ++ (fn, fv) :: L.drop k) = false) := box (by rw [← HFN.out, ← HFV.out]; exact never_pv _ _ _ _ _)
          have SV := sm_put (A := L.take k) (B := L.drop k) (n := fn) (v := fv) (fun x h => keep_mem KL.out x (List.mem_of_mem_take h)) (fun x h => keep_mem KL.out x (List.mem_of_mem_drop h)) (by rw [List.length_take, List.length_drop]; omega) hfz.1 hfz.2
          have SL := box SV.1
          have VL := box SV.2
          have SQ := box (keep_sm7 KQ.out)
          have VQ := box (keep_get KQ.out)
          have HN2 : Box ((L.take k ++ (fn, fv) :: L.drop k).length = nl + 1) := box (by rw [List.length_append, List.length_cons, List.length_take, List.length_drop, HNL.out]; omega)
          have HTK : Box ((L.take k).length = k) := box (by rw [List.length_take, HNL.out]; omega)
          have HDK : Box ((L.drop k).length = nl - k) := box (by rw [List.length_drop, HNL.out])
          have t65 : (L.take k).length ≤ 65536 := by rw [HTK.out]; have := HNL.out; omega
          have t66 : (L.take k ++ [(fn, fv)]).length ≤ 65536 := by rw [List.length_append, HTK.out]; have := HNL.out; show k + 1 ≤ 65536; omega
          have d65 : (L.drop k).length ≤ 65536 := by rw [HDK.out]; have := HNL.out; omega
          have hcl2 : nl ≤ cap' ∧ (a' = none → cap' = 0) := by rw [← HNL.out]; exact hcl.out
          have hkc : (k : Int) ≤ (cap' : Int) := by have := hcl2.1; omega
          have hhi := fun w => run_hi24 (a := a') (n := nl) (show k ≤ cap' by have := hcl2.1; omega) w
          obtain ⟨pl, cl, hlo, hpl, hFl⟩ := fld_lo (k := k) L0.out HNL.out hcl2.1 hcl2.2 hkn
          have HPL := box hpl
          have FL := box hFl
          have hnkI : (0 : Int) ≤ (k : Int) := by omega
          have HLO := box hlo
          have HC2 := box hcl2
          clear SV q7 l7 hfz hpl hFl hlo hcl2
          go_wp2
          rw [show (⟨#[99, 97, 99, 104, 101, 45, 99, 111, 110, 116, 114, 111, 108]⟩ : ByteArray) = fn from HFN.out, show (⟨#[120, 44, 32, 80, 114, 105, 118, 97, 116, 101, 61, 34, 97, 34]⟩ : ByteArray) = fv from HFV.out, HW5.out]
          clear e0 e1 e2 e3 e4 f0 f1 f2 f3 f4
          obtain ⟨e0, e1, e2, e3, e4, f0, f1, f2, f3, f4⟩ := T5.out.cells
          refine wp_region_held_drew (S := (fun w' : World => (w'.cell? ⟨w.heap.size + 1, 3, none⟩ = some (.slice a' nl cap') ∧ w'.cell? ⟨w2.heap.size, 0, none⟩ = some (.string fn) ∧ w'.cell? ⟨w2.heap.size, 1, none⟩ = some (.string fv)) ∧ Box (Below w5.heap.size w5 w'))) (by kernel_rfl) ⟨⟨f3, d00, d01⟩, box BS0.out⟩ (fun hHeld => ?_)
          have N_r1 := BS0
          refine wpAnyH_take (i := 0) (oi := { dst := some 49, op := Op.fieldAddr 26 (Operand.tmp 5) 3, type := 0, pos := "law.go:49", after := #[], guard := none }) (v := ?v0x1r1) rfl (by kernel_rfl) (by kernel_rfl) (by kernel_rfl) (fun _ _ _ h => h) (Or.inl ⟨by rfl, ?y0x1r1⟩) (by assumption) ?r0x1r1
          case y0x1r1 => (intro w hSw; (try dsimp only at hSw); go_simp; first | done | with_reducible rfl)
          try simp only [Act.put, List.setIfInBounds_toArray, List.set_cons_zero, List.set_cons_succ]
          refine wpAnyH_take (i := 1) (oi := { dst := some 50, op := Op.load 22 (Operand.tmp 49), type := 22, pos := "law.go:49", after := #[{ on := 0, ground := Ground.data }], guard := none }) (v := ?v1x2r1) rfl (by kernel_rfl) (by kernel_rfl) (by kernel_rfl) (fun _ _ _ h => h) (Or.inl ⟨by rfl, ?y1x2r1⟩) (by assumption) ?r1x2r1
          case y1x2r1 => (intro w hSw; (try dsimp only at hSw); go_simp; first | done | with_reducible rfl)
          try simp only [Act.put, List.setIfInBounds_toArray, List.set_cons_zero, List.set_cons_succ]
          refine wpAnyH_take (i := 2) (oi := { dst := some 51, op := Op.move (Operand.tmp 3), type := 3, pos := "law.go:49", after := #[], guard := none }) (v := ?v2x3r1) rfl (by kernel_rfl) (by kernel_rfl) (by kernel_rfl) (fun _ _ _ h => h) (Or.inl ⟨by rfl, ?y2x3r1⟩) (by assumption) ?r2x3r1
          case y2x3r1 => (intro w hSw; (try dsimp only at hSw); go_simp; first | done | with_reducible rfl)
          try simp only [Act.put, List.setIfInBounds_toArray, List.set_cons_zero, List.set_cons_succ]
          refine wpAnyH_take (i := 3) (oi := { dst := some 52, op := Op.slice 22 (Operand.tmp 50) none (some (Operand.tmp 51)) none, type := 22, pos := "law.go:49", after := #[{ on := 1, ground := Ground.data }, { on := 2, ground := Ground.data }], guard := none }) (v := ?v3x4r1) rfl (by kernel_rfl) (by kernel_rfl) (by kernel_rfl) (fun _ _ _ h => h) (Or.inl ⟨by rfl, ?y3x4r1⟩) (by assumption) ?r3x4r1
          case y3x4r1 => (intro w hSw; (try dsimp only at hSw); go_simp; first | done | with_reducible rfl)
          try simp only [Act.put, List.setIfInBounds_toArray, List.set_cons_zero, List.set_cons_succ]
          refine wpAnyH_take (i := 5) (oi := { dst := some 54, op := Op.load 30 (Operand.tmp 9), type := 30, pos := "law.go:49", after := #[], guard := none }) (v := ?v5x5r1) rfl (by kernel_rfl) (by kernel_rfl) (by kernel_rfl) (fun _ _ _ h => h) (Or.inl ⟨by rfl, ?y5x5r1⟩) (by assumption) ?r5x5r1
          case y5x5r1 => (intro w hSw; (try dsimp only at hSw); go_simp; first | done | with_reducible rfl)
          try simp only [Act.put, List.setIfInBounds_toArray, List.set_cons_zero, List.set_cons_succ]
          refine wpAnyH_ready (rs := [4, 6]) (by kernel_rfl) (by simp) ?_
          refine AllReadyH.cons (o := { dst := some 53, op := Op.call { callee := Callee.builtin Builtin.append, args := #[Operand.const (Value.slice none 0 0), Operand.tmp 52], argTypes := #[22, 22] }, type := 22, pos := "law.go:49", after := #[{ on := 3, ground := Ground.data }], guard := none }) rfl (fun K hK => ?_) (AllReadyH.cons (o := { dst := some 55, op := Op.buildSlice 22 1 #[(0, Operand.tmp 54)], type := 22, pos := "law.go:49", after := #[{ on := 5, ground := Ground.data }], guard := none }) rfl (fun K hK => ?_) AllReadyH.nil)
          · refine step_append_flds _ rfl (.const (.slice none 0 0)) (.tmp 52) rfl (w5.drew.heap.size) (.slice none 0 0) [] (L.take k) rfl (OwnF.nil _ _) a' k cap' rfl HTK.out HC2.out.2 ((T5.out.g.take17 k).below N_r1.out) (Nat.zero_le _) t65 (Nat.le_refl _) ?_
            intro v_r1a w_r1a hO hb
            rw [List.nil_append] at hO
            have N_r1a := box (N_r1.out.trans (hb.mono N_r1.out.size))
            have O_r1a := box hO
            have D_r1a := box hb.size
            clear hO hb
            refine hK.out _ _ ⟨⟨(N_r1a.out.cell (cell_lt f3)).trans f3, (N_r1a.out.cell (cell_lt d00)).trans d00, (N_r1a.out.cell (cell_lt d01)).trans d01⟩, N_r1a⟩ (fun hHeld => ?_)
            clear hK K
            try simp only [Act.put, List.setIfInBounds_toArray, List.set_cons_zero, List.set_cons_succ]
            refine wpAnyH_ready (rs := [6]) (by kernel_rfl) (by simp) ?_
            refine AllReadyH.cons (o := { dst := some 55, op := Op.buildSlice 22 1 #[(0, Operand.tmp 54)], type := 22, pos := "law.go:49", after := #[{ on := 5, ground := Ground.data }], guard := none }) rfl (fun K hK => ?_) AllReadyH.nil
            refine step_build24 _ rfl _ rfl fn fv rfl ?_
            intro w_r1ab hC hb
            have N_r1ab := box (N_r1a.out.trans (hb.mono N_r1a.out.size))
            have C_r1ab := box hC
            have O_r1ab := box (own_below O_r1a.out hb)
            have D_r1ab := box (Nat.le_trans D_r1a.out hb.size)
            clear hC hb
            refine hK.out _ _ ⟨⟨(N_r1ab.out.cell (cell_lt f3)).trans f3, (N_r1ab.out.cell (cell_lt d00)).trans d00, (N_r1ab.out.cell (cell_lt d01)).trans d01⟩, N_r1ab⟩ (fun hHeld => ?_)
            clear hK K
            try simp only [Act.put, List.setIfInBounds_toArray, List.set_cons_zero, List.set_cons_succ]
            refine wpAnyH_ready (rs := [7]) (by kernel_rfl) (by simp) ?_
            refine AllReadyH.cons (o := { dst := some 56, op := Op.call { callee := Callee.builtin Builtin.append, args := #[Operand.tmp 53, Operand.tmp 55], argTypes := #[22, 22] }, type := 22, pos := "law.go:49", after := #[{ on := 4, ground := Ground.data }, { on := 6, ground := Ground.data }, { on := 4, ground := Ground.chain }], guard := none }) rfl (fun K hK => ?_) AllReadyH.nil
            refine step_append_fld _ rfl (.tmp 53) (.tmp 55) rfl (w5.drew.heap.size) v_r1a (L.take k) rfl O_r1ab.out _ _ rfl fn fv C_r1ab.out.1 C_r1ab.out.2 t65 ?d_r1ab ?_
            case d_r1ab => exact D_r1ab.out
            intro v7 w7 hO7 hb7
            have BS7 := box (N_r1ab.out.trans (hb7.mono N_r1.out.size))
            have O7 : Box (OwnF w7 w5.heap.size v7 ((L.take k) ++ [(fn, fv)])) := box (Go.Joins.ownsRow_le hO7 N_r1.out.size)
            clear hO7 hb7
            refine hK.out _ _ ⟨⟨(BS7.out.cell (cell_lt f3)).trans f3, (BS7.out.cell (cell_lt d00)).trans d00, (BS7.out.cell (cell_lt d01)).trans d01⟩, BS7⟩ (fun hHeld => ?_)
            clear hK K
            try simp only [Act.put, List.setIfInBounds_toArray, List.set_cons_zero, List.set_cons_succ]
            refine wpAnyH_take (i := 8) (oi := { dst := some 10, op := Op.assign (Operand.tmp 56), type := 22, pos := "law.go:49", after := #[{ on := 7, ground := Ground.data }, { on := 7, ground := Ground.chain }, { on := 0, ground := Ground.phase }, { on := 1, ground := Ground.phase }, { on := 2, ground := Ground.phase }, { on := 3, ground := Ground.phase }, { on := 4, ground := Ground.phase }, { on := 5, ground := Ground.phase }, { on := 6, ground := Ground.phase }, { on := 7, ground := Ground.phase }], guard := none }) (v := ?v8x6r1) rfl (by kernel_rfl) (by kernel_rfl) (by kernel_rfl) (fun _ _ _ h => h) (Or.inl ⟨by rfl, ?y8x6r1⟩) (by assumption) ?r8x6r1
            case y8x6r1 => (intro w hSw; (try dsimp only at hSw); go_simp; first | done | with_reducible rfl)
            try simp only [Act.put, List.setIfInBounds_toArray, List.set_cons_zero, List.set_cons_succ]
            refine wpAnyH_done (by kernel_rfl) ?_ _
            have hlo := HLO.out
            clear hhi hHeld
            have TB := T5.out.next BS7.out
            have f37 := TB.d.1.2.2.2.1
            have z37 := TB.d.2.2.2.2.1
            clear d00 d01 e0 e1 e2 e3 e4 f0 f1 f2 f3 f4
            go_wp2_with (at_builtin; refine wpList_append_flds17 _ rfl (.tmp 57) (.tmp 61) rfl w5.heap.size v7 (L.take k ++ [(fn, fv)]) (L.drop k) rfl O7.out pl (nl - k) cl rfl HDK.out HPL.out (FL.out.below (TB.b)) t66 d65 BS7.out.size ?_; intro v8 w8 hO8 hb8; obtain ⟨a8, c8, rfl, _, _⟩ := OwnF.fs hO8; rw [show (L.take k ++ [(fn, fv)]) ++ L.drop k = L.take k ++ (fn, fv) :: L.drop k from by simp, HN2.out] at hO8; have O8 := box hO8; rw [show ((L.take k ++ [(fn, fv)]) ++ L.drop k).length = nl + 1 from by rw [← HN2.out]; simp]; have BS8 := box (BS7.out.trans hb8); have TC := T5.out.next BS8.out; obtain ⟨⟨y0, y1, y2, y3, y4⟩, _⟩ := TC.c; obtain ⟨⟨x0, x1, x2, x3, x4⟩, ⟨_, _, _, z38, _⟩⟩ := TC.d; clear hO8 hb8 f37 z37 hlo)
            have ON8 : Only (w.heap.size + 1) w8 (w8.setCell ⟨w.heap.size + 1, 3, none⟩ (.slice a8 (nl + 1) c8)) := (Only.refl _ _).setAt 3 _
            have F8 := box (own_fs24 (own_only O8.out ON8 (by omega)))
            have B8 := box ((T5.out.b.trans (BS8.out.mono hs5)).setCell (p := ⟨w.heap.size + 1, 3, none⟩) (Nat.le_succ _) (.slice a8 (nl + 1) c8))
            clear ON8 y0 y1 y2 y3 y4 x0 x1 x2 x3 x4 z38
            refine (mStor_is SQ VQ (Q0.out.below B8.out) HNQ SL VL F8.out HN2 (W0.out.below B8.out) HV).mono ?_; rintro e w9 ⟨rfl, hb9⟩
            have B9 := box (B8.out.trans (hb9.mono B8.out.size))
            clear hb9
            go_wp2_with fail
            refine (awake24_any _ (W0.out.below B9.out)).mono ?_; rintro e wa ⟨rfl, hba⟩
            have BA := box (B9.out.trans (hba.mono B9.out.size))
            clear hba
            go_wp2
            go_ret
            exact ⟨rfl, BA.out⟩
          · refine step_build24 _ rfl _ rfl fn fv rfl ?_
            intro w_r1b hC hb
            have N_r1b := box (N_r1.out.trans (hb.mono N_r1.out.size))
            have C_r1b := box hC
            clear hC hb
            refine hK.out _ _ ⟨⟨(N_r1b.out.cell (cell_lt f3)).trans f3, (N_r1b.out.cell (cell_lt d00)).trans d00, (N_r1b.out.cell (cell_lt d01)).trans d01⟩, N_r1b⟩ (fun hHeld => ?_)
            clear hK K
            try simp only [Act.put, List.setIfInBounds_toArray, List.set_cons_zero, List.set_cons_succ]
            refine wpAnyH_ready (rs := [4]) (by kernel_rfl) (by simp) ?_
            refine AllReadyH.cons (o := { dst := some 53, op := Op.call { callee := Callee.builtin Builtin.append, args := #[Operand.const (Value.slice none 0 0), Operand.tmp 52], argTypes := #[22, 22] }, type := 22, pos := "law.go:49", after := #[{ on := 3, ground := Ground.data }], guard := none }) rfl (fun K hK => ?_) AllReadyH.nil
            refine step_append_flds _ rfl (.const (.slice none 0 0)) (.tmp 52) rfl (w_r1b.heap.size) (.slice none 0 0) [] (L.take k) rfl (OwnF.nil _ _) a' k cap' rfl HTK.out HC2.out.2 ((T5.out.g.take17 k).below N_r1b.out) (Nat.zero_le _) t65 (Nat.le_refl _) ?_
            intro v_r1ba w_r1ba hO hb
            rw [List.nil_append] at hO
            have N_r1ba := box (N_r1b.out.trans (hb.mono N_r1b.out.size))
            have O_r1ba := box hO
            have D_r1ba := box hb.size
            have C_r1ba := box (show w_r1ba.cell? ⟨w5.drew.heap.size, 0, none⟩ = some (.string fn) ∧ w_r1ba.cell? ⟨w5.drew.heap.size, 1, none⟩ = some (.string fv) from ⟨(hb.cell (cell_lt C_r1b.out.1)).trans C_r1b.out.1, (hb.cell (cell_lt C_r1b.out.2)).trans C_r1b.out.2⟩)
            clear hO hb
            refine hK.out _ _ ⟨⟨(N_r1ba.out.cell (cell_lt f3)).trans f3, (N_r1ba.out.cell (cell_lt d00)).trans d00, (N_r1ba.out.cell (cell_lt d01)).trans d01⟩, N_r1ba⟩ (fun hHeld => ?_)
            clear hK K
            try simp only [Act.put, List.setIfInBounds_toArray, List.set_cons_zero, List.set_cons_succ]
            refine wpAnyH_ready (rs := [7]) (by kernel_rfl) (by simp) ?_
            refine AllReadyH.cons (o := { dst := some 56, op := Op.call { callee := Callee.builtin Builtin.append, args := #[Operand.tmp 53, Operand.tmp 55], argTypes := #[22, 22] }, type := 22, pos := "law.go:49", after := #[{ on := 4, ground := Ground.data }, { on := 6, ground := Ground.data }, { on := 4, ground := Ground.chain }], guard := none }) rfl (fun K hK => ?_) AllReadyH.nil
            refine step_append_fld _ rfl (.tmp 53) (.tmp 55) rfl (w_r1b.heap.size) v_r1ba (L.take k) rfl O_r1ba.out _ _ rfl fn fv C_r1ba.out.1 C_r1ba.out.2 t65 ?d_r1ba ?_
            case d_r1ba => exact D_r1ba.out
            intro v7 w7 hO7 hb7
            have BS7 := box (N_r1ba.out.trans (hb7.mono N_r1b.out.size))
            have O7 : Box (OwnF w7 w5.heap.size v7 ((L.take k) ++ [(fn, fv)])) := box (Go.Joins.ownsRow_le hO7 N_r1b.out.size)
            clear hO7 hb7
            refine hK.out _ _ ⟨⟨(BS7.out.cell (cell_lt f3)).trans f3, (BS7.out.cell (cell_lt d00)).trans d00, (BS7.out.cell (cell_lt d01)).trans d01⟩, BS7⟩ (fun hHeld => ?_)
            clear hK K
            try simp only [Act.put, List.setIfInBounds_toArray, List.set_cons_zero, List.set_cons_succ]
            refine wpAnyH_take (i := 8) (oi := { dst := some 10, op := Op.assign (Operand.tmp 56), type := 22, pos := "law.go:49", after := #[{ on := 7, ground := Ground.data }, { on := 7, ground := Ground.chain }, { on := 0, ground := Ground.phase }, { on := 1, ground := Ground.phase }, { on := 2, ground := Ground.phase }, { on := 3, ground := Ground.phase }, { on := 4, ground := Ground.phase }, { on := 5, ground := Ground.phase }, { on := 6, ground := Ground.phase }, { on := 7, ground := Ground.phase }], guard := none }) (v := ?v8x7r1) rfl (by kernel_rfl) (by kernel_rfl) (by kernel_rfl) (fun _ _ _ h => h) (Or.inl ⟨by rfl, ?y8x7r1⟩) (by assumption) ?r8x7r1
            case y8x7r1 => (intro w hSw; (try dsimp only at hSw); go_simp; first | done | with_reducible rfl)
            try simp only [Act.put, List.setIfInBounds_toArray, List.set_cons_zero, List.set_cons_succ]
            refine wpAnyH_done (by kernel_rfl) ?_ _
            have hlo := HLO.out
            clear hhi hHeld
            have TB := T5.out.next BS7.out
            have f37 := TB.d.1.2.2.2.1
            have z37 := TB.d.2.2.2.2.1
            clear d00 d01 e0 e1 e2 e3 e4 f0 f1 f2 f3 f4
            go_wp2_with (at_builtin; refine wpList_append_flds17 _ rfl (.tmp 57) (.tmp 61) rfl w5.heap.size v7 (L.take k ++ [(fn, fv)]) (L.drop k) rfl O7.out pl (nl - k) cl rfl HDK.out HPL.out (FL.out.below (TB.b)) t66 d65 BS7.out.size ?_; intro v8 w8 hO8 hb8; obtain ⟨a8, c8, rfl, _, _⟩ := OwnF.fs hO8; rw [show (L.take k ++ [(fn, fv)]) ++ L.drop k = L.take k ++ (fn, fv) :: L.drop k from by simp, HN2.out] at hO8; have O8 := box hO8; rw [show ((L.take k ++ [(fn, fv)]) ++ L.drop k).length = nl + 1 from by rw [← HN2.out]; simp]; have BS8 := box (BS7.out.trans hb8); have TC := T5.out.next BS8.out; obtain ⟨⟨y0, y1, y2, y3, y4⟩, _⟩ := TC.c; obtain ⟨⟨x0, x1, x2, x3, x4⟩, ⟨_, _, _, z38, _⟩⟩ := TC.d; clear hO8 hb8 f37 z37 hlo)
            have ON8 : Only (w.heap.size + 1) w8 (w8.setCell ⟨w.heap.size + 1, 3, none⟩ (.slice a8 (nl + 1) c8)) := (Only.refl _ _).setAt 3 _
            have F8 := box (own_fs24 (own_only O8.out ON8 (by omega)))
            have B8 := box ((T5.out.b.trans (BS8.out.mono hs5)).setCell (p := ⟨w.heap.size + 1, 3, none⟩) (Nat.le_succ _) (.slice a8 (nl + 1) c8))
            clear ON8 y0 y1 y2 y3 y4 x0 x1 x2 x3 x4 z38
            refine (mStor_is SQ VQ (Q0.out.below B8.out) HNQ SL VL F8.out HN2 (W0.out.below B8.out) HV).mono ?_; rintro e w9 ⟨rfl, hb9⟩
            have B9 := box (B8.out.trans (hb9.mono B8.out.size))
            clear hb9
            go_wp2_with fail
            refine (awake24_any _ (W0.out.below B9.out)).mono ?_; rintro e wa ⟨rfl, hba⟩
            have BA := box (B9.out.trans (hba.mono B9.out.size))
            clear hba
            go_wp2
            go_ret
            exact ⟨rfl, BA.out⟩
set_option maxHeartbeats 8000000 in
theorem never24_res2 (m t : ByteArray) (n : Int) (a : Option Addr) (cap nq : Nat) (Q : List F) (b : ByteArray) (kk s : Int) (r : ByteArray) (a' : Option Addr) (cap' nl : Nat) (L : List F) (c : ByteArray) (z p : Int) (w : World)
    (hm : Box (m.size ≤ maxLen)) (ht : Box (t.size ≤ maxLen)) (hQl : Box (Q.length ≤ maxLen)) (hQ : Fs w a Q) (hb : Box (b.size ≤ maxLen)) (hcq : Box (Q.length ≤ cap ∧ (a = none → cap = 0))) (hr : Box (r.size ≤ maxLen)) (hLl : Box (L.length ≤ maxLen)) (hL : Fs w a' L) (hc : Box (c.size ≤ maxLen)) (hcl : Box (L.length ≤ cap' ∧ (a' = none → cap' = 0))) (HNQ : Box (Q.length = nq)) (HNL : Box (L.length = nl)) (hW : Tabs w) (hz : bits .and .i64 z 3 = 2) :
    Calls Tryd.prog 3 #[.agg #[.string m, .string t, .int .i64 n, .slice a nq cap, .string b], .agg #[.int .i64 kk, .int .i64 s, .string r, .slice a' nl cap', .string c], .int .i64 z, .int .i64 p] w fun e w' => e = .returned (.bool true) ∧ Below w.heap.size w w' := by
  have T0 := box (Two.new (w := w) (c0 := .string m) (c1 := .string t) (c2 := .int .i64 n) (c3 := .slice a nq cap) (c4 := .string b) (d0 := .int .i64 kk) (d1 := .int .i64 s) (d2 := .string r) (d3 := .slice a' nl cap') (d4 := .string c) 24 26 hQ hL)
  have W0 := box hW
  have Q0 := box hQ
  have L0 := box hL
  clear hQ hL hW
  go_enter Tryd.func3, Tryd.ntmps3
  go_wp2_with fail
  refine (kReq24_is hm.out ht.out hb.out hQl T0.out.f HNQ).mono ?_; rintro e w1 ⟨⟨q1, rfl, hq1⟩, hb1⟩
  have T1 := box (T0.out.next hb1)
  clear hb1
  cases q1 with
  | false =>
    go_wp2
    go_ret
    exact ⟨rfl, T1.out.b⟩
  | true =>
    obtain ⟨e0, e1, e2, e3, e4, f0, f1, f2, f3, f4⟩ := T1.out.cells
    go_wp2_with fail
    refine (kRes24_is hr.out hc.out hLl T1.out.g HNL).mono ?_; rintro e w2 ⟨⟨q2, rfl, hq2⟩, hb2⟩
    have T2 := box (T1.out.next hb2)
    clear hb2 e0 e1 e2 e3 e4 f0 f1 f2 f3 f4
    cases q2 with
    | false =>
      go_wp2
      go_ret
      exact ⟨rfl, T2.out.b⟩
    | true =>
      have KQ := box (hq1 (by simp)).2.2.1
      have KL := box (hq2 (by simp)).2.1
      clear hq1 hq2
      obtain ⟨e0, e1, e2, e3, e4, f0, f1, f2, f3, f4⟩ := T2.out.cells
      by_cases hp0 : p < 0
      · go_wp2
        go_ret
        exact ⟨rfl, T2.out.b⟩
      · by_cases hp1 : (nl : Int) < p
        · go_wp2
          go_ret
          exact ⟨rfl, T2.out.b⟩
        · obtain ⟨k, rfl⟩ : ∃ k : Nat, p = k := ⟨p.toNat, by omega⟩
          have hkn : k ≤ nl := by omega
          obtain ⟨fn, hfn⟩ : ∃ fn : ByteArray, vyU = fn := ⟨_, rfl⟩
          obtain ⟨fv, hfv⟩ : ∃ fv : ByteArray, asV = fv := ⟨_, rfl⟩
          have hfz : fn.size ≤ 300 ∧ fv.size ≤ 300 := by rw [← hfn, ← hfv]; decide
          have q7 := (keep_parts KQ.out).1
          have l7 := (keep_parts KL.out).1
          obtain ⟨w5, hw5⟩ : ∃ w5, w2.alloc (.cells #[.string fn, .string fv] 30) = w5 := ⟨_, rfl⟩
          have HW5 := box hw5
          have T5 := box (show Two w (.string m) (.string t) (.int .i64 n) (.slice a nq cap) (.string b) (.int .i64 kk) (.int .i64 s) (.string r) (.slice a' nl cap') (.string c) a a' Q L w5 from by rw [← hw5]; exact T2.out.next (below_new _ _))
          have d00 : w5.cell? ⟨w2.heap.size, 0, none⟩ = some (.string fn) := by rw [← hw5, World.cell?_alloc_mark]; rfl
          have d01 : w5.cell? ⟨w2.heap.size, 1, none⟩ = some (.string fv) := by rw [← hw5, World.cell?_alloc_mark]; rfl
          have HFN := box hfn
          have HFV := box hfv
          clear hw5 hfn hfv
          have BS0 := box ((Below.refl w5.heap.size w5).drew)
          have hs5 := T5.out.b.size
          have hg5 : w.heap.size + 1 < w5.heap.size := T5.out.d.lt
          have hg2 : w.heap.size + 1 < w2.heap.size := T2.out.d.lt
          have q65 : Q.length ≤ 65536 := by omega
          have l65 : L.length ≤ 65536 := by omega
          have HV : Box (storV m.data.toList s Q (L.take k ++ (fn, fv) :: L.drop k) = false) := box (by rw [← HFN.out, ← HFV.out]; exact never_vary _ _ _ _ _)
          have SV := sm_put (A := L.take k) (B := L.drop k) (n := fn) (v := fv) (fun x h => keep_mem KL.out x (List.mem_of_mem_take h)) (fun x h => keep_mem KL.out x (List.mem_of_mem_drop h)) (by rw [List.length_take, List.length_drop]; omega) hfz.1 hfz.2
          have SL := box SV.1
          have VL := box SV.2
          have SQ := box (keep_sm7 KQ.out)
          have VQ := box (keep_get KQ.out)
          have HN2 : Box ((L.take k ++ (fn, fv) :: L.drop k).length = nl + 1) := box (by rw [List.length_append, List.length_cons, List.length_take, List.length_drop, HNL.out]; omega)
          have HTK : Box ((L.take k).length = k) := box (by rw [List.length_take, HNL.out]; omega)
          have HDK : Box ((L.drop k).length = nl - k) := box (by rw [List.length_drop, HNL.out])
          have t65 : (L.take k).length ≤ 65536 := by rw [HTK.out]; have := HNL.out; omega
          have t66 : (L.take k ++ [(fn, fv)]).length ≤ 65536 := by rw [List.length_append, HTK.out]; have := HNL.out; show k + 1 ≤ 65536; omega
          have d65 : (L.drop k).length ≤ 65536 := by rw [HDK.out]; have := HNL.out; omega
          have hcl2 : nl ≤ cap' ∧ (a' = none → cap' = 0) := by rw [← HNL.out]; exact hcl.out
          have hkc : (k : Int) ≤ (cap' : Int) := by have := hcl2.1; omega
          have hhi := fun w => run_hi24 (a := a') (n := nl) (show k ≤ cap' by have := hcl2.1; omega) w
          obtain ⟨pl, cl, hlo, hpl, hFl⟩ := fld_lo (k := k) L0.out HNL.out hcl2.1 hcl2.2 hkn
          have HPL := box hpl
          have FL := box hFl
          have hnkI : (0 : Int) ≤ (k : Int) := by omega
          have HLO := box hlo
          have HC2 := box hcl2
          clear SV q7 l7 hfz hpl hFl hlo hcl2
          go_wp2
          rw [show (⟨#[86, 65, 82, 89]⟩ : ByteArray) = fn from HFN.out, show (⟨#[97, 44, 32, 42]⟩ : ByteArray) = fv from HFV.out, HW5.out]
          clear e0 e1 e2 e3 e4 f0 f1 f2 f3 f4
          obtain ⟨e0, e1, e2, e3, e4, f0, f1, f2, f3, f4⟩ := T5.out.cells
          refine wp_region_held_drew (S := (fun w' : World => (w'.cell? ⟨w.heap.size + 1, 3, none⟩ = some (.slice a' nl cap') ∧ w'.cell? ⟨w2.heap.size, 0, none⟩ = some (.string fn) ∧ w'.cell? ⟨w2.heap.size, 1, none⟩ = some (.string fv)) ∧ Box (Below w5.heap.size w5 w'))) (by kernel_rfl) ⟨⟨f3, d00, d01⟩, box BS0.out⟩ (fun hHeld => ?_)
          have N_r2 := BS0
          refine wpAnyH_take (i := 0) (oi := { dst := some 49, op := Op.fieldAddr 26 (Operand.tmp 5) 3, type := 0, pos := "law.go:49", after := #[], guard := none }) (v := ?v0x1r2) rfl (by kernel_rfl) (by kernel_rfl) (by kernel_rfl) (fun _ _ _ h => h) (Or.inl ⟨by rfl, ?y0x1r2⟩) (by assumption) ?r0x1r2
          case y0x1r2 => (intro w hSw; (try dsimp only at hSw); go_simp; first | done | with_reducible rfl)
          try simp only [Act.put, List.setIfInBounds_toArray, List.set_cons_zero, List.set_cons_succ]
          refine wpAnyH_take (i := 1) (oi := { dst := some 50, op := Op.load 22 (Operand.tmp 49), type := 22, pos := "law.go:49", after := #[{ on := 0, ground := Ground.data }], guard := none }) (v := ?v1x2r2) rfl (by kernel_rfl) (by kernel_rfl) (by kernel_rfl) (fun _ _ _ h => h) (Or.inl ⟨by rfl, ?y1x2r2⟩) (by assumption) ?r1x2r2
          case y1x2r2 => (intro w hSw; (try dsimp only at hSw); go_simp; first | done | with_reducible rfl)
          try simp only [Act.put, List.setIfInBounds_toArray, List.set_cons_zero, List.set_cons_succ]
          refine wpAnyH_take (i := 2) (oi := { dst := some 51, op := Op.move (Operand.tmp 3), type := 3, pos := "law.go:49", after := #[], guard := none }) (v := ?v2x3r2) rfl (by kernel_rfl) (by kernel_rfl) (by kernel_rfl) (fun _ _ _ h => h) (Or.inl ⟨by rfl, ?y2x3r2⟩) (by assumption) ?r2x3r2
          case y2x3r2 => (intro w hSw; (try dsimp only at hSw); go_simp; first | done | with_reducible rfl)
          try simp only [Act.put, List.setIfInBounds_toArray, List.set_cons_zero, List.set_cons_succ]
          refine wpAnyH_take (i := 3) (oi := { dst := some 52, op := Op.slice 22 (Operand.tmp 50) none (some (Operand.tmp 51)) none, type := 22, pos := "law.go:49", after := #[{ on := 1, ground := Ground.data }, { on := 2, ground := Ground.data }], guard := none }) (v := ?v3x4r2) rfl (by kernel_rfl) (by kernel_rfl) (by kernel_rfl) (fun _ _ _ h => h) (Or.inl ⟨by rfl, ?y3x4r2⟩) (by assumption) ?r3x4r2
          case y3x4r2 => (intro w hSw; (try dsimp only at hSw); go_simp; first | done | with_reducible rfl)
          try simp only [Act.put, List.setIfInBounds_toArray, List.set_cons_zero, List.set_cons_succ]
          refine wpAnyH_take (i := 5) (oi := { dst := some 54, op := Op.load 30 (Operand.tmp 9), type := 30, pos := "law.go:49", after := #[], guard := none }) (v := ?v5x5r2) rfl (by kernel_rfl) (by kernel_rfl) (by kernel_rfl) (fun _ _ _ h => h) (Or.inl ⟨by rfl, ?y5x5r2⟩) (by assumption) ?r5x5r2
          case y5x5r2 => (intro w hSw; (try dsimp only at hSw); go_simp; first | done | with_reducible rfl)
          try simp only [Act.put, List.setIfInBounds_toArray, List.set_cons_zero, List.set_cons_succ]
          refine wpAnyH_ready (rs := [4, 6]) (by kernel_rfl) (by simp) ?_
          refine AllReadyH.cons (o := { dst := some 53, op := Op.call { callee := Callee.builtin Builtin.append, args := #[Operand.const (Value.slice none 0 0), Operand.tmp 52], argTypes := #[22, 22] }, type := 22, pos := "law.go:49", after := #[{ on := 3, ground := Ground.data }], guard := none }) rfl (fun K hK => ?_) (AllReadyH.cons (o := { dst := some 55, op := Op.buildSlice 22 1 #[(0, Operand.tmp 54)], type := 22, pos := "law.go:49", after := #[{ on := 5, ground := Ground.data }], guard := none }) rfl (fun K hK => ?_) AllReadyH.nil)
          · refine step_append_flds _ rfl (.const (.slice none 0 0)) (.tmp 52) rfl (w5.drew.heap.size) (.slice none 0 0) [] (L.take k) rfl (OwnF.nil _ _) a' k cap' rfl HTK.out HC2.out.2 ((T5.out.g.take17 k).below N_r2.out) (Nat.zero_le _) t65 (Nat.le_refl _) ?_
            intro v_r2a w_r2a hO hb
            rw [List.nil_append] at hO
            have N_r2a := box (N_r2.out.trans (hb.mono N_r2.out.size))
            have O_r2a := box hO
            have D_r2a := box hb.size
            clear hO hb
            refine hK.out _ _ ⟨⟨(N_r2a.out.cell (cell_lt f3)).trans f3, (N_r2a.out.cell (cell_lt d00)).trans d00, (N_r2a.out.cell (cell_lt d01)).trans d01⟩, N_r2a⟩ (fun hHeld => ?_)
            clear hK K
            try simp only [Act.put, List.setIfInBounds_toArray, List.set_cons_zero, List.set_cons_succ]
            refine wpAnyH_ready (rs := [6]) (by kernel_rfl) (by simp) ?_
            refine AllReadyH.cons (o := { dst := some 55, op := Op.buildSlice 22 1 #[(0, Operand.tmp 54)], type := 22, pos := "law.go:49", after := #[{ on := 5, ground := Ground.data }], guard := none }) rfl (fun K hK => ?_) AllReadyH.nil
            refine step_build24 _ rfl _ rfl fn fv rfl ?_
            intro w_r2ab hC hb
            have N_r2ab := box (N_r2a.out.trans (hb.mono N_r2a.out.size))
            have C_r2ab := box hC
            have O_r2ab := box (own_below O_r2a.out hb)
            have D_r2ab := box (Nat.le_trans D_r2a.out hb.size)
            clear hC hb
            refine hK.out _ _ ⟨⟨(N_r2ab.out.cell (cell_lt f3)).trans f3, (N_r2ab.out.cell (cell_lt d00)).trans d00, (N_r2ab.out.cell (cell_lt d01)).trans d01⟩, N_r2ab⟩ (fun hHeld => ?_)
            clear hK K
            try simp only [Act.put, List.setIfInBounds_toArray, List.set_cons_zero, List.set_cons_succ]
            refine wpAnyH_ready (rs := [7]) (by kernel_rfl) (by simp) ?_
            refine AllReadyH.cons (o := { dst := some 56, op := Op.call { callee := Callee.builtin Builtin.append, args := #[Operand.tmp 53, Operand.tmp 55], argTypes := #[22, 22] }, type := 22, pos := "law.go:49", after := #[{ on := 4, ground := Ground.data }, { on := 6, ground := Ground.data }, { on := 4, ground := Ground.chain }], guard := none }) rfl (fun K hK => ?_) AllReadyH.nil
            refine step_append_fld _ rfl (.tmp 53) (.tmp 55) rfl (w5.drew.heap.size) v_r2a (L.take k) rfl O_r2ab.out _ _ rfl fn fv C_r2ab.out.1 C_r2ab.out.2 t65 ?d_r2ab ?_
            case d_r2ab => exact D_r2ab.out
            intro v7 w7 hO7 hb7
            have BS7 := box (N_r2ab.out.trans (hb7.mono N_r2.out.size))
            have O7 : Box (OwnF w7 w5.heap.size v7 ((L.take k) ++ [(fn, fv)])) := box (Go.Joins.ownsRow_le hO7 N_r2.out.size)
            clear hO7 hb7
            refine hK.out _ _ ⟨⟨(BS7.out.cell (cell_lt f3)).trans f3, (BS7.out.cell (cell_lt d00)).trans d00, (BS7.out.cell (cell_lt d01)).trans d01⟩, BS7⟩ (fun hHeld => ?_)
            clear hK K
            try simp only [Act.put, List.setIfInBounds_toArray, List.set_cons_zero, List.set_cons_succ]
            refine wpAnyH_take (i := 8) (oi := { dst := some 10, op := Op.assign (Operand.tmp 56), type := 22, pos := "law.go:49", after := #[{ on := 7, ground := Ground.data }, { on := 7, ground := Ground.chain }, { on := 0, ground := Ground.phase }, { on := 1, ground := Ground.phase }, { on := 2, ground := Ground.phase }, { on := 3, ground := Ground.phase }, { on := 4, ground := Ground.phase }, { on := 5, ground := Ground.phase }, { on := 6, ground := Ground.phase }, { on := 7, ground := Ground.phase }], guard := none }) (v := ?v8x6r2) rfl (by kernel_rfl) (by kernel_rfl) (by kernel_rfl) (fun _ _ _ h => h) (Or.inl ⟨by rfl, ?y8x6r2⟩) (by assumption) ?r8x6r2
            case y8x6r2 => (intro w hSw; (try dsimp only at hSw); go_simp; first | done | with_reducible rfl)
            try simp only [Act.put, List.setIfInBounds_toArray, List.set_cons_zero, List.set_cons_succ]
            refine wpAnyH_done (by kernel_rfl) ?_ _
            have hlo := HLO.out
            clear hhi hHeld
            have TB := T5.out.next BS7.out
            have f37 := TB.d.1.2.2.2.1
            have z37 := TB.d.2.2.2.2.1
            clear d00 d01 e0 e1 e2 e3 e4 f0 f1 f2 f3 f4
            go_wp2_with (at_builtin; refine wpList_append_flds17 _ rfl (.tmp 57) (.tmp 61) rfl w5.heap.size v7 (L.take k ++ [(fn, fv)]) (L.drop k) rfl O7.out pl (nl - k) cl rfl HDK.out HPL.out (FL.out.below (TB.b)) t66 d65 BS7.out.size ?_; intro v8 w8 hO8 hb8; obtain ⟨a8, c8, rfl, _, _⟩ := OwnF.fs hO8; rw [show (L.take k ++ [(fn, fv)]) ++ L.drop k = L.take k ++ (fn, fv) :: L.drop k from by simp, HN2.out] at hO8; have O8 := box hO8; rw [show ((L.take k ++ [(fn, fv)]) ++ L.drop k).length = nl + 1 from by rw [← HN2.out]; simp]; have BS8 := box (BS7.out.trans hb8); have TC := T5.out.next BS8.out; obtain ⟨⟨y0, y1, y2, y3, y4⟩, _⟩ := TC.c; obtain ⟨⟨x0, x1, x2, x3, x4⟩, ⟨_, _, _, z38, _⟩⟩ := TC.d; clear hO8 hb8 f37 z37 hlo)
            have ON8 : Only (w.heap.size + 1) w8 (w8.setCell ⟨w.heap.size + 1, 3, none⟩ (.slice a8 (nl + 1) c8)) := (Only.refl _ _).setAt 3 _
            have F8 := box (own_fs24 (own_only O8.out ON8 (by omega)))
            have B8 := box ((T5.out.b.trans (BS8.out.mono hs5)).setCell (p := ⟨w.heap.size + 1, 3, none⟩) (Nat.le_succ _) (.slice a8 (nl + 1) c8))
            clear ON8 y0 y1 y2 y3 y4 x0 x1 x2 x3 x4 z38
            refine (mStor_is SQ VQ (Q0.out.below B8.out) HNQ SL VL F8.out HN2 (W0.out.below B8.out) HV).mono ?_; rintro e w9 ⟨rfl, hb9⟩
            have B9 := box (B8.out.trans (hb9.mono B8.out.size))
            clear hb9
            go_wp2_with fail
            refine (awake24_any _ (W0.out.below B9.out)).mono ?_; rintro e wa ⟨rfl, hba⟩
            have BA := box (B9.out.trans (hba.mono B9.out.size))
            clear hba
            go_wp2
            go_ret
            exact ⟨rfl, BA.out⟩
          · refine step_build24 _ rfl _ rfl fn fv rfl ?_
            intro w_r2b hC hb
            have N_r2b := box (N_r2.out.trans (hb.mono N_r2.out.size))
            have C_r2b := box hC
            clear hC hb
            refine hK.out _ _ ⟨⟨(N_r2b.out.cell (cell_lt f3)).trans f3, (N_r2b.out.cell (cell_lt d00)).trans d00, (N_r2b.out.cell (cell_lt d01)).trans d01⟩, N_r2b⟩ (fun hHeld => ?_)
            clear hK K
            try simp only [Act.put, List.setIfInBounds_toArray, List.set_cons_zero, List.set_cons_succ]
            refine wpAnyH_ready (rs := [4]) (by kernel_rfl) (by simp) ?_
            refine AllReadyH.cons (o := { dst := some 53, op := Op.call { callee := Callee.builtin Builtin.append, args := #[Operand.const (Value.slice none 0 0), Operand.tmp 52], argTypes := #[22, 22] }, type := 22, pos := "law.go:49", after := #[{ on := 3, ground := Ground.data }], guard := none }) rfl (fun K hK => ?_) AllReadyH.nil
            refine step_append_flds _ rfl (.const (.slice none 0 0)) (.tmp 52) rfl (w_r2b.heap.size) (.slice none 0 0) [] (L.take k) rfl (OwnF.nil _ _) a' k cap' rfl HTK.out HC2.out.2 ((T5.out.g.take17 k).below N_r2b.out) (Nat.zero_le _) t65 (Nat.le_refl _) ?_
            intro v_r2ba w_r2ba hO hb
            rw [List.nil_append] at hO
            have N_r2ba := box (N_r2b.out.trans (hb.mono N_r2b.out.size))
            have O_r2ba := box hO
            have D_r2ba := box hb.size
            have C_r2ba := box (show w_r2ba.cell? ⟨w5.drew.heap.size, 0, none⟩ = some (.string fn) ∧ w_r2ba.cell? ⟨w5.drew.heap.size, 1, none⟩ = some (.string fv) from ⟨(hb.cell (cell_lt C_r2b.out.1)).trans C_r2b.out.1, (hb.cell (cell_lt C_r2b.out.2)).trans C_r2b.out.2⟩)
            clear hO hb
            refine hK.out _ _ ⟨⟨(N_r2ba.out.cell (cell_lt f3)).trans f3, (N_r2ba.out.cell (cell_lt d00)).trans d00, (N_r2ba.out.cell (cell_lt d01)).trans d01⟩, N_r2ba⟩ (fun hHeld => ?_)
            clear hK K
            try simp only [Act.put, List.setIfInBounds_toArray, List.set_cons_zero, List.set_cons_succ]
            refine wpAnyH_ready (rs := [7]) (by kernel_rfl) (by simp) ?_
            refine AllReadyH.cons (o := { dst := some 56, op := Op.call { callee := Callee.builtin Builtin.append, args := #[Operand.tmp 53, Operand.tmp 55], argTypes := #[22, 22] }, type := 22, pos := "law.go:49", after := #[{ on := 4, ground := Ground.data }, { on := 6, ground := Ground.data }, { on := 4, ground := Ground.chain }], guard := none }) rfl (fun K hK => ?_) AllReadyH.nil
            refine step_append_fld _ rfl (.tmp 53) (.tmp 55) rfl (w_r2b.heap.size) v_r2ba (L.take k) rfl O_r2ba.out _ _ rfl fn fv C_r2ba.out.1 C_r2ba.out.2 t65 ?d_r2ba ?_
            case d_r2ba => exact D_r2ba.out
            intro v7 w7 hO7 hb7
            have BS7 := box (N_r2ba.out.trans (hb7.mono N_r2b.out.size))
            have O7 : Box (OwnF w7 w5.heap.size v7 ((L.take k) ++ [(fn, fv)])) := box (Go.Joins.ownsRow_le hO7 N_r2b.out.size)
            clear hO7 hb7
            refine hK.out _ _ ⟨⟨(BS7.out.cell (cell_lt f3)).trans f3, (BS7.out.cell (cell_lt d00)).trans d00, (BS7.out.cell (cell_lt d01)).trans d01⟩, BS7⟩ (fun hHeld => ?_)
            clear hK K
            try simp only [Act.put, List.setIfInBounds_toArray, List.set_cons_zero, List.set_cons_succ]
            refine wpAnyH_take (i := 8) (oi := { dst := some 10, op := Op.assign (Operand.tmp 56), type := 22, pos := "law.go:49", after := #[{ on := 7, ground := Ground.data }, { on := 7, ground := Ground.chain }, { on := 0, ground := Ground.phase }, { on := 1, ground := Ground.phase }, { on := 2, ground := Ground.phase }, { on := 3, ground := Ground.phase }, { on := 4, ground := Ground.phase }, { on := 5, ground := Ground.phase }, { on := 6, ground := Ground.phase }, { on := 7, ground := Ground.phase }], guard := none }) (v := ?v8x7r2) rfl (by kernel_rfl) (by kernel_rfl) (by kernel_rfl) (fun _ _ _ h => h) (Or.inl ⟨by rfl, ?y8x7r2⟩) (by assumption) ?r8x7r2
            case y8x7r2 => (intro w hSw; (try dsimp only at hSw); go_simp; first | done | with_reducible rfl)
            try simp only [Act.put, List.setIfInBounds_toArray, List.set_cons_zero, List.set_cons_succ]
            refine wpAnyH_done (by kernel_rfl) ?_ _
            have hlo := HLO.out
            clear hhi hHeld
            have TB := T5.out.next BS7.out
            have f37 := TB.d.1.2.2.2.1
            have z37 := TB.d.2.2.2.2.1
            clear d00 d01 e0 e1 e2 e3 e4 f0 f1 f2 f3 f4
            go_wp2_with (at_builtin; refine wpList_append_flds17 _ rfl (.tmp 57) (.tmp 61) rfl w5.heap.size v7 (L.take k ++ [(fn, fv)]) (L.drop k) rfl O7.out pl (nl - k) cl rfl HDK.out HPL.out (FL.out.below (TB.b)) t66 d65 BS7.out.size ?_; intro v8 w8 hO8 hb8; obtain ⟨a8, c8, rfl, _, _⟩ := OwnF.fs hO8; rw [show (L.take k ++ [(fn, fv)]) ++ L.drop k = L.take k ++ (fn, fv) :: L.drop k from by simp, HN2.out] at hO8; have O8 := box hO8; rw [show ((L.take k ++ [(fn, fv)]) ++ L.drop k).length = nl + 1 from by rw [← HN2.out]; simp]; have BS8 := box (BS7.out.trans hb8); have TC := T5.out.next BS8.out; obtain ⟨⟨y0, y1, y2, y3, y4⟩, _⟩ := TC.c; obtain ⟨⟨x0, x1, x2, x3, x4⟩, ⟨_, _, _, z38, _⟩⟩ := TC.d; clear hO8 hb8 f37 z37 hlo)
            have ON8 : Only (w.heap.size + 1) w8 (w8.setCell ⟨w.heap.size + 1, 3, none⟩ (.slice a8 (nl + 1) c8)) := (Only.refl _ _).setAt 3 _
            have F8 := box (own_fs24 (own_only O8.out ON8 (by omega)))
            have B8 := box ((T5.out.b.trans (BS8.out.mono hs5)).setCell (p := ⟨w.heap.size + 1, 3, none⟩) (Nat.le_succ _) (.slice a8 (nl + 1) c8))
            clear ON8 y0 y1 y2 y3 y4 x0 x1 x2 x3 x4 z38
            refine (mStor_is SQ VQ (Q0.out.below B8.out) HNQ SL VL F8.out HN2 (W0.out.below B8.out) HV).mono ?_; rintro e w9 ⟨rfl, hb9⟩
            have B9 := box (B8.out.trans (hb9.mono B8.out.size))
            clear hb9
            go_wp2_with fail
            refine (awake24_any _ (W0.out.below B9.out)).mono ?_; rintro e wa ⟨rfl, hba⟩
            have BA := box (B9.out.trans (hba.mono B9.out.size))
            clear hba
            go_wp2
            go_ret
            exact ⟨rfl, BA.out⟩
theorem never24_walk (m t : ByteArray) (n : Int) (a : Option Addr) (cap : Nat) (Q : List F) (b : ByteArray) (k s : Int) (r : ByteArray) (a' : Option Addr) (cap' : Nat) (L : List F) (c : ByteArray) (z p : Int) (w : World)
    (hm : m.size ≤ maxLen) (ht : t.size ≤ maxLen) (hn : (Lit.int .i64 n).wf = true) (hQl : Q.length ≤ maxLen) (hQ : Fs w a Q) (hb : b.size ≤ maxLen) (hcq : Q.length ≤ cap ∧ (a = none → cap = 0)) (hk : (Lit.int .i64 k).wf = true) (hs : (Lit.int .i64 s).wf = true) (hr : r.size ≤ maxLen) (hLl : L.length ≤ maxLen) (hL : Fs w a' L) (hc : c.size ≤ maxLen) (hcl : L.length ≤ cap' ∧ (a' = none → cap' = 0)) (hz : (Lit.int .i64 z).wf = true) (hp : (Lit.int .i64 p).wf = true) (hW : Tabs w) :
    Calls Tryd.prog 3 #[rqV m t n a cap Q b, rsV k s r a' cap' L c, .int .i64 z, .int .i64 p] w fun e w' => e = .returned (.bool true) ∧ Below w.heap.size w w' := by
  rcases and3_cases z with h | h | h | h
  · exact never24_res0 m t n a cap _ Q b k s r a' cap' _ L c z p w (box hm) (box ht) (box hQl) hQ (box hb) (box hcq) (box hr) (box hLl) hL (box hc) (box hcl) (box rfl) (box rfl) hW h
  · exact never24_res1 m t n a cap _ Q b k s r a' cap' _ L c z p w (box hm) (box ht) (box hQl) hQ (box hb) (box hcq) (box hr) (box hLl) hL (box hc) (box hcl) (box rfl) (box rfl) hW h
  · exact never24_res2 m t n a cap _ Q b k s r a' cap' _ L c z p w (box hm) (box ht) (box hQl) hQ (box hb) (box hcq) (box hr) (box hLl) hL (box hc) (box hcl) (box rfl) (box rfl) hW h
  · exact never24_req m t n a cap _ Q b k s r a' cap' _ L c z p w (box hm) (box ht) (box hQl) hQ (box hb) (box hcq) (box hr) (box hLl) hL (box hc) (box hcl) (box rfl) (box rfl) hW h
end
section
open Go.RowKit
theorem cell_size20 {w : World} {a : Addr} {v : Value} (h : w.cell? a = some v) : a.block < w.heap.size := by
  refine Nat.lt_of_not_le fun hle => ?_
  unfold World.cell? at h
  rw [Array.getElem?_eq_none hle] at h
  cases h
/-- an array of strings that reads as the table holds these strings, cell for cell -/
theorem cells_of_strs {H : Type} {enc : TypeId × Value → H} {w : World} {base : Nat} {sp : Nat → Bool} {held : Bool} {fuel : Nat} {t e : TypeId} {n : Nat} {cs : List Value} {zs : List (List UInt8)} {p : List MemPlace}
    (ht : Tryd.prog.underlying t = some (.array n e)) (he : Tryd.prog.underlying e = some .string) (hce : Tryd.prog.cellsOf e = 1) (hct : Tryd.prog.cellsOf t = n)
    (h : DataW.trod enc Tryd.prog w base sp held fuel t cs = some (.agg (zs.map fun z => .lit (.string z)), p)) : cs = zs.map fun z => Value.string (bs z) := by
  cases fuel with
  | zero => simp [DataW.trod] at h
  | succ fuel =>
    simp only [DataW.trod, ht, hce, hct, Nat.mul_one] at h
    split at h
    · rename_i hl
      obtain ⟨xs, hm, hx⟩ := Option.map_eq_some_iff.1 h
      have hxs : xs.map (·.1) = zs.map fun z => (DataW.lit (.string z) : DataW H) := by
        have := congrArg Prod.fst hx
        simpa using this
      have hxl : xs.length = n := by simpa using Lib.mapM_length hm
      have hzl : zs.length = n := by
        have := congrArg List.length hxs
        simp at this
        omega
      apply List.ext_getElem?
      intro i
      by_cases hi : i < n
      · obtain ⟨b, hb, hf⟩ := Lib.mapM_at hm i i (by simp [hi])
        obtain ⟨z, hc, rfl, _⟩ := DataW.trod_string he hf
        have h1 : cs[i]? = some (.string z) := by
          have := congrArg (·[0]?) hc
          simpa [List.getElem?_take, List.getElem?_drop] using this
        have h2 : (xs.map (·.1))[i]? = some (DataW.lit (.string z.data.toList) : DataW H) := by simp [hb]
        rw [hxs] at h2
        simp only [List.getElem?_map, Option.map_eq_some_iff, DataW.lit.injEq, Lit.string.injEq] at h2
        obtain ⟨z', hz', hzz⟩ := h2
        rw [h1, List.getElem?_map, hz', Option.map_some, hzz]; rfl
      · rw [List.getElem?_eq_none (by omega), List.getElem?_eq_none (by simp; omega)]
    · cases h
theorem gWk : Tryd.prog.globalNamed "variantproxy/date.weekdays" = some 1 := by kernel_rfl
theorem gMo : Tryd.prog.globalNamed "variantproxy/date.months" = some 0 := by kernel_rfl
theorem gLn : Tryd.prog.globalNamed "variantproxy/date.monthLengths" = some 2 := by kernel_rfl
theorem tWk : (Tryd.prog.globals[1]?).map (·.type) = some 114 := by kernel_rfl
theorem tMo : (Tryd.prog.globals[0]?).map (·.type) = some 111 := by kernel_rfl
theorem tLn : (Tryd.prog.globals[2]?).map (·.type) = some 120 := by kernel_rfl
def wkT : List (List UInt8) := [[84, 104, 117], [70, 114, 105], [83, 97, 116], [83, 117, 110], [77, 111, 110], [84, 117, 101], [87, 101, 100]]
def moT : List (List UInt8) := [[74, 97, 110], [70, 101, 98], [77, 97, 114], [65, 112, 114], [77, 97, 121], [74, 117, 110], [74, 117, 108], [65, 117, 103], [83, 101, 112], [79, 99, 116], [78, 111, 118], [68, 101, 99]]
def lnT : List Int := [31, 28, 31, 30, 31, 30, 31, 31, 30, 31, 30, 31]
theorem tabs_of_laid {W : World} (h : laidMet Tryd.prog [("variantproxy/date.weekdays", .agg (wkT.map fun z => .lit (.string z))), ("variantproxy/date.months", .agg (moT.map fun z => .lit (.string z))), ("variantproxy/date.monthLengths", Lib.tabData .i64 lnT)] W) : Tabs W := by
  obtain ⟨ps, ⟨g1, t1, c1, f1, p1, q1, hg1, ht1, hv1, hd1, ⟨g2, t2, c2, f2, p2, q2, hg2, ht2, hv2, hd2, ⟨g3, t3, c3, f3, p3, q3, hg3, ht3, hv3, hd3, _, _⟩, _⟩, _⟩, _⟩ := h
  obtain rfl := Option.some.inj (gWk.symm.trans hg1)
  obtain rfl := Option.some.inj (tWk.symm.trans ht1)
  obtain rfl := Option.some.inj (gMo.symm.trans hg2)
  obtain rfl := Option.some.inj (tMo.symm.trans ht2)
  obtain rfl := Option.some.inj (gLn.symm.trans hg3)
  obtain rfl := Option.some.inj (tLn.symm.trans ht3)
  have e1 := cells_of_strs Tryd.underlying114 Tryd.underlying9 (by kernel_rfl) (by kernel_rfl) hd1
  have e2 := cells_of_strs Tryd.underlying111 Tryd.underlying9 (by kernel_rfl) (by kernel_rfl) hd2
  have e3 := Lib.cells_of_tab Tryd.underlying120 Tryd.underlying3 (by kernel_rfl) (by kernel_rfl) hd3
  have a1 : ∀ k, k < 7 → W.cell? ⟨1, k, none⟩ = some (.string (bs (wkL k))) := fun k hk => by
    have h1 := World.var?_cell gWk hv1 k
    have h2 : c1[k]? = some (.string (bs (wkL k))) := by
      rw [← Array.getElem?_toList, e1]
      have key : ∀ k : Fin 7, wkT[k.1]? = some (wkL k.1) := by decide
      rw [List.getElem?_map, key ⟨k, hk⟩]; rfl
    rw [h1, h2]
  have a2 : ∀ k, k < 12 → W.cell? ⟨0, k, none⟩ = some (.string (bs (monL (k + 1)))) := fun k hk => by
    have h1 := World.var?_cell gMo hv2 k
    have h2 : c2[k]? = some (.string (bs (monL (k + 1)))) := by
      rw [← Array.getElem?_toList, e2]
      have key : ∀ k : Fin 12, moT[k.1]? = some (monL (k.1 + 1)) := by decide
      rw [List.getElem?_map, key ⟨k, hk⟩]; rfl
    rw [h1, h2]
  have a3 : ∀ k, k < 12 → W.cell? ⟨2, k, none⟩ = some (.int .i64 (lenM false (k + 1) : Nat)) := fun k hk => by
    have h1 := World.var?_cell gLn hv3 k
    have h2 : c3[k]? = some (.int .i64 (lenM false (k + 1) : Nat)) := by
      rw [← Array.getElem?_toList, e3]
      have key : ∀ k : Fin 12, lnT[k.1]? = some ((lenM false (k.1 + 1) : Nat) : Int) := by decide
      rw [List.getElem?_map, key ⟨k, hk⟩]; rfl
    rw [h1, h2]
  exact ⟨a1, a2, a3, cell_size20 (a1 0 (by omega)), cell_size20 (a2 0 (by omega)), cell_size20 (a3 0 (by omega))⟩
end
end Go.Proofs.YtiogngfemelifaaDoor.Asc
