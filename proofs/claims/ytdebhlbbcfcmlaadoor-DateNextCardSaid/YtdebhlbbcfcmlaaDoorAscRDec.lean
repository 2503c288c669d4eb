/- The contract of the reference's Decimal. -/
import Derived.Test.YtdebhlbbcfcmlaaDoorAscDec
import Derived.Laws.AppendOwnNone
set_option linter.unusedVariables false
set_option linter.unusedSimpArgs false
set_option maxRecDepth 100000
namespace Go.Proofs.YtdebhlbbcfcmlaaDoor.Asc
open Go.RowKit

/-- append of the bytes of a slice of the call's own, nil or not -/
theorem wpList_append_bytes (w : World) {ops : Array Oper} {rest : List Oper} {o : Oper} {a : Act} {Q : Exit → Act → World → Prop} (hgd : o.guard = none) (s x : Operand)
    (ho : o.op = .call { callee := .builtin .append, args := #[s, x], argTypes := #[45, 45] })
    (B : Nat) (v : Value) (l : List UInt8) (hs : a.eval s = v) (hown : Own w B v l)
    (v2 : Value) (l2 : List UInt8) (hx : a.eval x = v2) (hown2 : Own w B v2 l2) (hl : l.length + l2.length < 8589934592) (hB : B ≤ w.heap.size)
    (h : ∀ v' w', Own w' B v' (l ++ l2) → Below B w w' → wpList Tryd.prog ops Q rest (a.put o.dst v') w') : wpList Tryd.prog ops Q (o :: rest) a w := by
  obtain ⟨i0, hi0, hz0, hz1, hz2⟩ := info_parts info_u8
  rcases hown2.2 with ⟨rfl, hn⟩ | ⟨g, cap, cur, rfl, hb, hh, hnc, hcm, hcs, htake⟩
  · have e : l2 = [] := by simpa using hn
    subst e
    refine wpList_append_own_none (P := Tryd.prog) (w := w) hgd s x 45 ho B 5 i0 1 Tryd.underlying45 hi0 v l.length (l.map bv) hs hown hx ?_
    exact h v w (by simpa using hown) (Below.refl _ _)
  · refine wpList_append_own (P := Tryd.prog) w hgd s x 45 ho B 5 i0 _ 1 1 Tryd.underlying45 hi0 hz0 hz1 hz2 rfl (by decide) v l.length (l.map bv) hs hown ⟨g, 0, none⟩ l2.length cap (l2.map bv) hx (by simp) ?_ (bv_oneCell l2) (by unfold maxLen; omega) (by omega) hB ?_
    · intro j u hj
      have ea : (⟨g, 0, none⟩ : Addr).add j = ⟨g, j, none⟩ := by unfold Addr.add; split <;> simp_all
      have hj' := (List.getElem?_eq_some_iff.1 hj).1
      rw [ea, World.ownsRow.cellAt hown2 j (by simpa using hj')]; exact hj
    · intro v' w' h1 h2 _
      exact h v' w' (by simpa [Own] using h1) ((Below.refl _ _).grown h2 hB (fun k hk => Own.block hown k hk))

/-- how far the digits have come -/
def RDec (N m : Nat) (acc : List UInt8) : Prop := DecAt N m acc ∨ (m = 0 ∧ 1 ≤ acc.length ∧ acc.length ≤ 19 ∧ decF 20 N [] = acc)
theorem RDec.next {N m : Nat} {acc : List UInt8} (h : DecAt N m acc) : RDec N (m / 10) (digB m :: acc) := by
  by_cases hm : m / 10 = 0
  · have := h.len
    exact .inr ⟨hm, by simp, by simp; omega, h.fin hm⟩
  · exact .inl (h.step hm)

theorem Own.fresh (w : World) (B : Nat) (d : UInt8) (b : Int) (hb : b = (d.toNat : Int)) (hB : B ≤ w.heap.size) : Own (w.alloc (.cells #[.int .u8 b] 5)) B (.slice (some ⟨w.heap.size, 0, none⟩) 1 1) [d] := by
  subst hb
  exact ⟨rfl, .inr ⟨_, _, _, rfl, hB, heap_alloc_new w _, Nat.le_refl _, by unfold maxLen; omega, rfl, rfl⟩⟩
theorem wrap_div {N m : Nat} {acc : List UInt8} (h : DecAt N m acc) : wrap64 ((m : Int) / 10) = (m : Int) / 10 := by
  have h2 := h.2.1
  have h3 : m ≤ m * 10 ^ acc.length := Nat.le_mul_of_pos_right _ (Nat.pow_pos (by omega))
  exact IntWalk.wrap64_in _ (by omega)
theorem wrap_ndiv {N m : Nat} {acc : List UInt8} (h : DecAt N m acc) : wrap64 (-((m : Int) / 10)) = -((m : Int) / 10) := by
  have h2 := h.2.1
  have h3 : m ≤ m * 10 ^ acc.length := Nat.le_mul_of_pos_right _ (Nat.pow_pos (by omega))
  exact IntWalk.wrap64_in _ (by omega)
theorem RDec.step {N m : Nat} {acc : List UInt8} (h : DecAt N m acc) : Hid (RDec N (m / 10) (digB m :: acc)) := Lib.hid (RDec.next h)

theorem rDecimal_pos (n : Int) (w : World) (h0 : 0 ≤ n) (h1 : InI64 n) :
    Calls Tryd.prog 24 #[.int .i64 n] w fun e w' => e = .returned (.string ⟨(decL n).toArray⟩) ∧ Below w.heap.size w w' := by
  obtain ⟨N, rfl⟩ := Int.eq_ofNat_of_zero_le h0
  have H1 := Lib.hid h1
  clear h1
  go_enter Tryd.func24, Tryd.ntmps24
  go_wp2
  go_loopw [0, 3, 5, 6] (fun n b k _ wr => ∃ (m : Nat) (acc : List UInt8), n = .int .i64 m ∧ k = .int .i64 acc.length ∧ Own wr w.heap.size b acc ∧ Hid (RDec N m acc) ∧ Below w.heap.size w wr) (fun n _ k _ _ => 20 - (intOf k).toNat)
  case atStart => exact ⟨N, [], rfl, rfl, Own.nil _ _, Lib.hid (.inl (DecAt.start (by have := H1.out; unfold InI64 at this; omega))), Below.refl _ _⟩
  case round =>
    obtain ⟨m, acc, rfl, rfl, hO, hR, hbel⟩ := hrel
    rcases hR.out with hD | ⟨rfl, ha1, ha2, ha3⟩
    · have hlen := hD.len
      have HD := Lib.hid hD
      have hw := wrap_div hD
      have HN := RDec.step hD
      clear hD
      by_cases hm : m = 0
      · have hm1 : ((m : Int) != 0) = false := by simp [hm]
        have hm2 : ((acc.length : Int) == 0) = true := by rcases HD.out.2.2 with h | h <;> simp [h] ; omega
        clear hm
        go_wp2_with (at_builtin; refine wpList_append_bytes _ rfl _ _ rfl w.heap.size _ [digB m] rfl (Own.fresh _ _ _ _ (dig_toNat m).symm hbel.size) _ acc rfl (hO.alloc _) (by simp; omega) (by have := hbel.size; simp; omega) ?_; intro v' w1 hO1 hb1)
        go_roundw
        case rel => exact ⟨m / 10, digB m :: acc, by go_num, by go_num, hO1, HN, (hbel.alloc hbel.size _).trans hb1⟩
        case measure => simp [intOf]; omega
      · have hm1 : ((m : Int) != 0) = true := by simp [hm]
        clear hm
        go_wp2_with (at_builtin; refine wpList_append_bytes _ rfl _ _ rfl w.heap.size _ [digB m] rfl (Own.fresh _ _ _ _ (dig_toNat m).symm hbel.size) _ acc rfl (hO.alloc _) (by simp; omega) (by have := hbel.size; simp; omega) ?_; intro v' w1 hO1 hb1)
        go_roundw
        case rel => exact ⟨m / 10, digB m :: acc, by go_num, by go_num, hO1, HN, (hbel.alloc hbel.size _).trans hb1⟩
        case measure => simp [intOf]; omega
    · have hst := hO.str
      have hm2 : ((acc.length : Int) == 0) = false := by simp; intro h; simp [h] at ha1
      have HA := Lib.hid ha3
      clear ha3
      go_wp2
      go_ret
      exact ⟨by rw [decL, if_neg (by omega), show ((N : Int)).natAbs = N from rfl, HA.out]; rfl, hbel⟩

theorem rDecimal_neg (N : Nat) (w : World) (h0 : 1 ≤ N) (h1 : InI64 (-(N : Int))) :
    Calls Tryd.prog 24 #[.int .i64 (-(N : Int))] w fun e w' => e = .returned (.string ⟨(decL (-(N : Int))).toArray⟩) ∧ Below w.heap.size w w' := by
  have H1 := Lib.hid h1
  clear h1
  go_enter Tryd.func24, Tryd.ntmps24
  go_wp2
  go_loopw [0, 3, 5, 6] (fun n b k _ wr => ∃ (m : Nat) (acc : List UInt8), n = .int .i64 (-(m : Int)) ∧ k = .int .i64 acc.length ∧ Own wr w.heap.size b acc ∧ Hid (RDec N m acc) ∧ Below w.heap.size w wr) (fun n _ k _ _ => 20 - (intOf k).toNat)
  case atStart => exact ⟨N, [], rfl, rfl, Own.nil _ _, Lib.hid (.inl (DecAt.start (by have := H1.out; unfold InI64 at this; omega))), Below.refl _ _⟩
  case round =>
    obtain ⟨m, acc, rfl, rfl, hO, hR, hbel⟩ := hrel
    rcases hR.out with hD | ⟨rfl, ha1, ha2, ha3⟩
    · have hlen := hD.len
      have HD := Lib.hid hD
      have hw := wrap_ndiv hD
      have HN := RDec.step hD
      clear hD
      by_cases hm : m = 0
      · have hm1 : (-(m : Int) != 0) = false := by simp [hm]
        have hm2 : ((acc.length : Int) == 0) = true := by rcases HD.out.2.2 with h | h <;> simp [h] ; omega
        have hd : ¬ 0 < (m : Int) % 10 := by omega
        clear hm
        go_wp2_with (at_builtin; refine wpList_append_bytes _ rfl _ _ rfl w.heap.size _ [digB m] rfl (Own.fresh _ _ _ _ (by have := dig_toNat m; omega) hbel.size) _ acc rfl (hO.alloc _) (by simp; omega) (by have := hbel.size; simp; omega) ?_; intro v' w1 hO1 hb1)
        go_roundw
        case rel => exact ⟨m / 10, digB m :: acc, by go_num, by go_num, hO1, HN, (hbel.alloc hbel.size _).trans hb1⟩
        case measure => simp [intOf]; omega
      · have hm1 : (-(m : Int) != 0) = true := by simp [hm]
        clear hm
        by_cases hd : 0 < (m : Int) % 10
        all_goals
          go_wp2_with (at_builtin; refine wpList_append_bytes _ rfl _ _ rfl w.heap.size _ [digB m] rfl (Own.fresh _ _ _ _ (by have := dig_toNat m; omega) hbel.size) _ acc rfl (hO.alloc _) (by simp; omega) (by have := hbel.size; simp; omega) ?_; intro v' w1 hO1 hb1)
          go_roundw
          case rel => exact ⟨m / 10, digB m :: acc, by go_num, by go_num, hO1, HN, (hbel.alloc hbel.size _).trans hb1⟩
          case measure => simp [intOf]; omega
    · have hst := hO.str
      have hm2 : ((acc.length : Int) == 0) = false := by simp; intro h; simp [h] at ha1
      have HA := Lib.hid ha3
      clear ha3
      go_wp2
      go_ret
      exact ⟨by rw [decL, if_pos (by omega), show (-(N : Int)).natAbs = N from by omega, HA.out]; rfl, hbel⟩

theorem rDecimal_any (n : Int) (w : World) (h1 : InI64 n) :
    Calls Tryd.prog 24 #[.int .i64 n] w fun e w' => e = .returned (.string ⟨(decL n).toArray⟩) ∧ Below w.heap.size w w' := by
  by_cases h : 0 ≤ n
  · exact rDecimal_pos n w h h1
  · obtain ⟨N, rfl⟩ : ∃ N : Nat, n = -(N : Int) := ⟨n.natAbs, by omega⟩
    exact rDecimal_neg N w (by omega) h1
end Go.Proofs.YtdebhlbbcfcmlaaDoor.Asc
