/- Merged texts: AscRDec CtlLaws3 CtlLaws2. -/
import Derived.Test.YtlcojfkkeommoaaZs09
import Derived.Test.YtlcojfkkeommoaaZs11
import Derived.Laws.AppendOwnNone
set_option linter.unusedVariables false
set_option linter.unusedSimpArgs false
set_option maxRecDepth 100000
namespace Go.Proofs.Ytlcojfkkeommoaa.Asc
section
open Go.RowKit
/-- append of the bytes of a slice of the call's own, nil or not -/
theorem wpList_append_bytes (w : World) {ops : Array Oper} {rest : List Oper} {o : Oper} {a : Act} {Q : Exit → Act → World → Prop} (hgd : o.guard = none) (s x : Operand)
    (ho : o.op = .call { callee := .builtin .append, args := #[s, x], argTypes := #[48, 48] })
    (B : Nat) (v : Value) (l : List UInt8) (hs : a.eval s = v) (hown : Own w B v l)
    (v2 : Value) (l2 : List UInt8) (hx : a.eval x = v2) (hown2 : Own w B v2 l2) (hl : l.length + l2.length < 8589934592) (hB : B ≤ w.heap.size)
    (h : ∀ v' w', Own w' B v' (l ++ l2) → Below B w w' → wpList Try.prog ops Q rest (a.put o.dst v') w') : wpList Try.prog ops Q (o :: rest) a w := by
  obtain ⟨i0, hi0, hz0, hz1, hz2⟩ := info_parts info_u8
  rcases hown2.2 with ⟨rfl, hn⟩ | ⟨g, cap, cur, rfl, hb, hh, hnc, hcm, hcs, htake⟩
  · have e : l2 = [] := by simpa using hn
    subst e
    refine wpList_append_own_none (P := Try.prog) (w := w) hgd s x 48 ho B 5 i0 1 Try.underlying48 hi0 v l.length (l.map bv) hs hown hx ?_
    exact h v w (by simpa using hown) (Below.refl _ _)
  · refine wpList_append_own (P := Try.prog) w hgd s x 48 ho B 5 i0 _ 1 1 Try.underlying48 hi0 hz0 hz1 hz2 rfl (by decide) v l.length (l.map bv) hs hown ⟨g, 0, none⟩ l2.length cap (l2.map bv) hx (by simp) ?_ (bv_oneCell l2) (by unfold maxLen; omega) (by omega) hB ?_
    · intro j u hj
      have ea : (⟨g, 0, none⟩ : Addr).add j = ⟨g, j, none⟩ := by unfold Addr.add; split <;> simp_all
      have hj' := (List.getElem?_eq_some_iff.1 hj).1
      rw [ea, World.ownsRow.cellAt hown2 j (by simpa using hj')]; exact hj
    · intro v' w' h1 h2 _
      exact h v' w' (by simpa [Own] using h1) ((Below.refl _ _).grown h2 hB (fun k hk => Own.block hown k hk))
/-- how far the digits have come -/
def RDec (N m : Nat) (acc : List UInt8) : Prop := DecAt N m acc ∨ (m = 0 ∧ 1 ≤ acc.length ∧ acc.length ≤ 19 ∧ decF 20 N [] = acc)
theorem RDec.next {N m : Nat} {acc : List UInt8} (h : DecAt N m acc) : RDec N (m / 10) (digB m :: acc) := by
  by_cases hm : m / 10 = 0
  · have := h.len
    exact .inr ⟨hm, by simp, by simp; omega, h.fin hm⟩
  · exact .inl (h.step hm)
theorem Own.fresh (w : World) (B : Nat) (d : UInt8) (b : Int) (hb : b = (d.toNat : Int)) (hB : B ≤ w.heap.size) : Own (w.alloc (.cells #[.int .u8 b] 5)) B (.slice (some ⟨w.heap.size, 0, none⟩) 1 1) [d] := by
  subst hb
  exact ⟨rfl, .inr ⟨_, _, _, rfl, hB, heap_alloc_new w _, Nat.le_refl _, by unfold maxLen; omega, rfl, rfl⟩⟩
theorem wrap_div {N m : Nat} {acc : List UInt8} (h : DecAt N m acc) : wrap64 ((m : Int) / 10) = (m : Int) / 10 := by
  have h2 := h.2.1
  have h3 : m ≤ m * 10 ^ acc.length := Nat.le_mul_of_pos_right _ (Nat.pow_pos (by omega))
  exact IntWalk.wrap64_in _ (by omega)
theorem wrap_ndiv {N m : Nat} {acc : List UInt8} (h : DecAt N m acc) : wrap64 (-((m : Int) / 10)) = -((m : Int) / 10) := by
  have h2 := h.2.1
  have h3 : m ≤ m * 10 ^ acc.length := Nat.le_mul_of_pos_right _ (Nat.pow_pos (by omega))
  exact IntWalk.wrap64_in _ (by omega)
theorem RDec.step {N m : Nat} {acc : List UInt8} (h : DecAt N m acc) : Hid (RDec N (m / 10) (digB m :: acc)) := Lib.hid (RDec.next h)
theorem rDecimal_pos (n : Int) (w : World) (h0 : 0 ≤ n) (h1 : InI64 n) :
    Calls Try.prog 20 #[.int .i64 n] w fun e w' => e = .returned (.string ⟨(decL n).toArray⟩) ∧ Below w.heap.size w w' := by
  obtain ⟨N, rfl⟩ := Int.eq_ofNat_of_zero_le h0
  have H1 := Lib.hid h1
  clear h1
  go_enter Try.func20, Try.ntmps20
  go_wp2
  go_loopw [0, 3, 5, 6] (fun n b k _ wr => ∃ (m : Nat) (acc : List UInt8), n = .int .i64 m ∧ k = .int .i64 acc.length ∧ Own wr w.heap.size b acc ∧ Hid (RDec N m acc) ∧ Below w.heap.size w wr) (fun n _ k _ _ => 20 - (intOf k).toNat)
  case atStart => exact ⟨N, [], rfl, rfl, Own.nil _ _, Lib.hid (.inl (DecAt.start (by have := H1.out; unfold InI64 at this; omega))), Below.refl _ _⟩
  case round =>
    obtain ⟨m, acc, rfl, rfl, hO, hR, hbel⟩ := hrel
    rcases hR.out with hD | ⟨rfl, ha1, ha2, ha3⟩
    · have hlen := hD.len
      have HD := Lib.hid hD
      have hw := wrap_div hD
      have HN := RDec.step hD
      clear hD
      by_cases hm : m = 0
      · have hm1 : ((m : Int) != 0) = false := by simp [hm]
        have hm2 : ((acc.length : Int) == 0) = true := by rcases HD.out.2.2 with h | h <;> simp [h] ; omega
        clear hm
        go_wp2_with (at_builtin; refine wpList_append_bytes _ rfl _ _ rfl w.heap.size _ [digB m] rfl (Own.fresh _ _ _ _ (dig_toNat m).symm hbel.size) _ acc rfl (hO.alloc _) (by simp; omega) (by have := hbel.size; simp; omega) ?_; intro v' w1 hO1 hb1)
        go_roundw
        case rel => exact ⟨m / 10, digB m :: acc, by go_num, by go_num, hO1, HN, (hbel.alloc hbel.size _).trans hb1⟩
        case measure => simp [intOf]; omega
      · have hm1 : ((m : Int) != 0) = true := by simp [hm]
        clear hm
        go_wp2_with (at_builtin; refine wpList_append_bytes _ rfl _ _ rfl w.heap.size _ [digB m] rfl (Own.fresh _ _ _ _ (dig_toNat m).symm hbel.size) _ acc rfl (hO.alloc _) (by simp; omega) (by have := hbel.size; simp; omega) ?_; intro v' w1 hO1 hb1)
        go_roundw
        case rel => exact ⟨m / 10, digB m :: acc, by go_num, by go_num, hO1, HN, (hbel.alloc hbel.size _).trans hb1⟩
        case measure => simp [intOf]; omega
    · have hst := hO.str
      have hm2 : ((acc.length : Int) == 0) = false := by simp; intro h; simp [h] at ha1
      have HA := Lib.hid ha3
      clear ha3
      go_wp2
      go_ret
      exact ⟨by rw [decL, if_neg (by omega), show ((N : Int)).natAbs = N from rfl, HA.out]; rfl, hbel⟩
theorem rDecimal_neg (N : Nat) (w : World) (h0 : 1 ≤ N) (h1 : InI64 (-(N : Int))) :
    Calls Try.prog 20 #[.int .i64 (-(N : Int))] w fun e w' => e = .returned (.string ⟨(decL (-(N : Int))).toArray⟩) ∧ Below w.heap.size w w' := by
  have H1 := Lib.hid h1
  clear h1
  go_enter Try.func20, Try.ntmps20
  go_wp2
  go_loopw [0, 3, 5, 6] (fun n b k _ wr => ∃ (m : Nat) (acc : List UInt8), n = .int .i64 (-(m : Int)) ∧ k = .int .i64 acc.length ∧ Own wr w.heap.size b acc ∧ Hid (RDec N m acc) ∧ Below w.heap.size w wr) (fun n _ k _ _ => 20 - (intOf k).toNat)
  case atStart => exact ⟨N, [], rfl, rfl, Own.nil _ _, Lib.hid (.inl (DecAt.start (by have := H1.out; unfold InI64 at this; omega))), Below.refl _ _⟩
  case round =>
    obtain ⟨m, acc, rfl, rfl, hO, hR, hbel⟩ := hrel
    rcases hR.out with hD | ⟨rfl, ha1, ha2, ha3⟩
    · have hlen := hD.len
      have HD := Lib.hid hD
      have hw := wrap_ndiv hD
      have HN := RDec.step hD
      clear hD
      by_cases hm : m = 0
      · have hm1 : (-(m : Int) != 0) = false := by simp [hm]
        have hm2 : ((acc.length : Int) == 0) = true := by rcases HD.out.2.2 with h | h <;> simp [h] ; omega
        have hd : ¬ 0 < (m : Int) % 10 := by omega
        clear hm
        go_wp2_with (at_builtin; refine wpList_append_bytes _ rfl _ _ rfl w.heap.size _ [digB m] rfl (Own.fresh _ _ _ _ (by have := dig_toNat m; omega) hbel.size) _ acc rfl (hO.alloc _) (by simp; omega) (by have := hbel.size; simp; omega) ?_; intro v' w1 hO1 hb1)
        go_roundw
        case rel => exact ⟨m / 10, digB m :: acc, by go_num, by go_num, hO1, HN, (hbel.alloc hbel.size _).trans hb1⟩
        case measure => simp [intOf]; omega
      · have hm1 : (-(m : Int) != 0) = true := by simp [hm]
        clear hm
        by_cases hd : 0 < (m : Int) % 10
        all_goals
          go_wp2_with (at_builtin; refine wpList_append_bytes _ rfl _ _ rfl w.heap.size _ [digB m] rfl (Own.fresh _ _ _ _ (by have := dig_toNat m; omega) hbel.size) _ acc rfl (hO.alloc _) (by simp; omega) (by have := hbel.size; simp; omega) ?_; intro v' w1 hO1 hb1)
          go_roundw
          case rel => exact ⟨m / 10, digB m :: acc, by go_num, by go_num, hO1, HN, (hbel.alloc hbel.size _).trans hb1⟩
          case measure => simp [intOf]; omega
    · have hst := hO.str
      have hm2 : ((acc.length : Int) == 0) = false := by simp; intro h; simp [h] at ha1
      have HA := Lib.hid ha3
      clear ha3
      go_wp2
      go_ret
      exact ⟨by rw [decL, if_pos (by omega), show (-(N : Int)).natAbs = N from by omega, HA.out]; rfl, hbel⟩
theorem rDecimal_any (n : Int) (w : World) (h1 : InI64 n) :
    Calls Try.prog 20 #[.int .i64 n] w fun e w' => e = .returned (.string ⟨(decL n).toArray⟩) ∧ Below w.heap.size w w' := by
  by_cases h : 0 ≤ n
  · exact rDecimal_pos n w h h1
  · obtain ⟨N, rfl⟩ : ∃ N : Nat, n = -(N : Int) := ⟨n.natAbs, by omega⟩
    exact rDecimal_neg N w (by omega) h1
end
section
open Go.RowKit
theorem rep_snoc (k : Nat) : bs (List.replicate k 48) ++ ⟨#[48]⟩ = bs (List.replicate (k + 1) 48) := by
  rw [List.replicate_succ']
  rfl
theorem decL_len22 {n : Int} (h0 : 0 ≤ n) (h1 : n ≤ 9223372036854775807) : (decL n).length ≤ 20 := by
  rw [decL, if_neg (by omega)]
  have key : ∀ (f m : Nat) (acc : List UInt8), (decF f m acc).length ≤ f + acc.length := by
    intro f
    induction f with
    | zero => intro m acc; unfold decF; simp
    | succ f ih =>
      intro m acc
      unfold decF
      split
      · simp; omega
      · have := ih (m / 10) (digB m :: acc)
        simp at this; omega
  have := key 20 n.natAbs []
  simpa using this
set_option maxHeartbeats 4000000 in
theorem forms22_in (n : Int) (z : Nat) (w : World) (h0 : 0 ≤ n) (h1 : n ≤ 9223372036854775807) (hz : z ≤ 30) :
    Calls Try.prog 5 #[.int .i64 n, .int .i64 z] w fun e w' => e = .returned (.bool true) ∧ Below w.heap.size w w' := by
  have h2 : ¬ n < 0 := by omega
  have h3 : ¬ (z : Int) < 0 := by omega
  have h4 : ¬ (30 : Int) < (z : Int) := by omega
  obtain ⟨D, hD⟩ : ∃ D, bs (decL n) = D := ⟨_, rfl⟩
  have hDz : D.size ≤ 20 := by rw [← hD]; exact decL_len22 h0 h1
  have HDC : ∀ w : World, Calls Try.prog 20 #[.int .i64 n] w fun e w' => e = .returned (.string D) ∧ Below w.heap.size w w' := fun w => by
    have := rDecimal_any n w ⟨by omega, h1⟩
    rw [← hD]; exact this
  have HDC := box HDC
  obtain ⟨Z, hZ⟩ : ∃ Z, bs (List.replicate z 48) = Z := ⟨_, rfl⟩
  have hZz : Z.size ≤ 30 := by rw [← hZ]; show (List.replicate z (48 : UInt8)).length ≤ 30; rw [List.length_replicate]; exact hz
  obtain ⟨s, hs⟩ : ∃ s, Z ++ D = s := ⟨_, rfl⟩
  have hsz : s.size ≤ 50 := by rw [← hs, ByteArray.size_append]; omega
  have hsd : s.data.toList = digS z n := by rw [← hs, ← hZ, ← hD]; rfl
  have HZS : ∀ w : World, (Op.stringOp .add Z D).run Try.prog w = .ok (.string s) w := fun w => by
    have := run_string_add_sum (P := Try.prog) w Z D (by omega)
    rw [this, hs]
  obtain ⟨z1, hz1⟩ : ∃ y, (⟨#[77, 65, 88, 45, 65, 71, 69, 61]⟩ : ByteArray) ++ s = y := ⟨_, rfl⟩
  have sz1 : z1.size ≤ 58 := by rw [← hz1, ByteArray.size_append]; show 8 + s.size ≤ 58; omega
  have r1 : ∀ w : World, (Op.stringOp .add ⟨#[77, 65, 88, 45, 65, 71, 69, 61]⟩ s).run Try.prog w = .ok (.string z1) w := fun w => by
    have := run_string_add_sum (P := Try.prog) w ⟨#[77, 65, 88, 45, 65, 71, 69, 61]⟩ s (by show 8 + s.size ≤ 9223372036854775807; omega)
    rw [this, hz1]
  obtain ⟨z2, hz2⟩ : ∃ y, (z1 : ByteArray) ++ ⟨#[44, 32, 115, 45, 109, 97, 120, 97, 103, 101, 61, 34]⟩ = y := ⟨_, rfl⟩
  have sz2 : z2.size ≤ 70 := by rw [← hz2, ByteArray.size_append]; show z1.size + 12 ≤ 70; omega
  have r2 : ∀ w : World, (Op.stringOp .add z1 ⟨#[44, 32, 115, 45, 109, 97, 120, 97, 103, 101, 61, 34]⟩).run Try.prog w = .ok (.string z2) w := fun w => by
    have := run_string_add_sum (P := Try.prog) w z1 ⟨#[44, 32, 115, 45, 109, 97, 120, 97, 103, 101, 61, 34]⟩ (by show z1.size + 12 ≤ 9223372036854775807; omega)
    rw [this, hz2]
  obtain ⟨z3, hz3⟩ : ∃ y, (z2 : ByteArray) ++ s = y := ⟨_, rfl⟩
  have sz3 : z3.size ≤ 120 := by rw [← hz3, ByteArray.size_append]; show z2.size + s.size ≤ 120; omega
  have r3 : ∀ w : World, (Op.stringOp .add z2 s).run Try.prog w = .ok (.string z3) w := fun w => by
    have := run_string_add_sum (P := Try.prog) w z2 s (by show z2.size + s.size ≤ 9223372036854775807; omega)
    rw [this, hz3]
  obtain ⟨z4, hz4⟩ : ∃ y, (z3 : ByteArray) ++ ⟨#[34, 44, 32, 109, 105, 110, 45, 102, 114, 101, 115, 104, 61]⟩ = y := ⟨_, rfl⟩
  have sz4 : z4.size ≤ 133 := by rw [← hz4, ByteArray.size_append]; show z3.size + 13 ≤ 133; omega
  have r4 : ∀ w : World, (Op.stringOp .add z3 ⟨#[34, 44, 32, 109, 105, 110, 45, 102, 114, 101, 115, 104, 61]⟩).run Try.prog w = .ok (.string z4) w := fun w => by
    have := run_string_add_sum (P := Try.prog) w z3 ⟨#[34, 44, 32, 109, 105, 110, 45, 102, 114, 101, 115, 104, 61]⟩ (by show z3.size + 13 ≤ 9223372036854775807; omega)
    rw [this, hz4]
  obtain ⟨z5, hz5⟩ : ∃ y, (z4 : ByteArray) ++ s = y := ⟨_, rfl⟩
  have sz5 : z5.size ≤ 183 := by rw [← hz5, ByteArray.size_append]; show z4.size + s.size ≤ 183; omega
  have r5 : ∀ w : World, (Op.stringOp .add z4 s).run Try.prog w = .ok (.string z5) w := fun w => by
    have := run_string_add_sum (P := Try.prog) w z4 s (by show z4.size + s.size ≤ 9223372036854775807; omega)
    rw [this, hz5]
  obtain ⟨z6, hz6⟩ : ∃ y, (z5 : ByteArray) ++ ⟨#[44, 32, 109, 97, 120, 45, 115, 116, 97, 108, 101, 61, 34]⟩ = y := ⟨_, rfl⟩
  have sz6 : z6.size ≤ 196 := by rw [← hz6, ByteArray.size_append]; show z5.size + 13 ≤ 196; omega
  have r6 : ∀ w : World, (Op.stringOp .add z5 ⟨#[44, 32, 109, 97, 120, 45, 115, 116, 97, 108, 101, 61, 34]⟩).run Try.prog w = .ok (.string z6) w := fun w => by
    have := run_string_add_sum (P := Try.prog) w z5 ⟨#[44, 32, 109, 97, 120, 45, 115, 116, 97, 108, 101, 61, 34]⟩ (by show z5.size + 13 ≤ 9223372036854775807; omega)
    rw [this, hz6]
  obtain ⟨z7, hz7⟩ : ∃ y, (z6 : ByteArray) ++ s = y := ⟨_, rfl⟩
  have sz7 : z7.size ≤ 246 := by rw [← hz7, ByteArray.size_append]; show z6.size + s.size ≤ 246; omega
  have r7 : ∀ w : World, (Op.stringOp .add z6 s).run Try.prog w = .ok (.string z7) w := fun w => by
    have := run_string_add_sum (P := Try.prog) w z6 s (by show z6.size + s.size ≤ 9223372036854775807; omega)
    rw [this, hz7]
  obtain ⟨z8, hz8⟩ : ∃ y, (z7 : ByteArray) ++ ⟨#[34]⟩ = y := ⟨_, rfl⟩
  have sz8 : z8.size ≤ 247 := by rw [← hz8, ByteArray.size_append]; show z7.size + 1 ≤ 247; omega
  have r8 : ∀ w : World, (Op.stringOp .add z7 ⟨#[34]⟩).run Try.prog w = .ok (.string z8) w := fun w => by
    have := run_string_add_sum (P := Try.prog) w z7 ⟨#[34]⟩ (by show z7.size + 1 ≤ 9223372036854775807; omega)
    rw [this, hz8]
  have hS : s = bs (digS z n) := by rw [← hsd, bs_all22]
  have hda := digS_all (z := z) h0
  have hdn := digS_ne (z := z) h0
  have hV : z8.data.toList = (maU ++ 61 :: digS z n) ++ 44 :: ((32 :: (smN ++ 61 :: quoteL (digS z n))) ++ 44 :: ((32 :: (mfN ++ 61 :: digS z n)) ++ 44 :: (32 :: (msN ++ 61 :: quoteL (digS z n))))) := by
    have e : z8 = bs (((((((([77, 65, 88, 45, 65, 71, 69, 61] ++ digS z n) ++ [44, 32, 115, 45, 109, 97, 120, 97, 103, 101, 61, 34]) ++ digS z n) ++ [34, 44, 32, 109, 105, 110, 45, 102, 114, 101, 115, 104, 61]) ++ digS z n) ++ [44, 32, 109, 97, 120, 45, 115, 116, 97, 108, 101, 61, 34]) ++ digS z n) ++ [34]) := by
      rw [← hz8, ← hz7, ← hz6, ← hz5, ← hz4, ← hz3, ← hz2, ← hz1, hS]; rfl
    rw [e, bs_toList]
    unfold quoteL maU smN mfN msN
    rw [digs_esc hda]
    simp
  have hnm : nmd ccN (ccN, z8) = true := by
    show foldL ccN.data.toList ccN.data.toList = true
    decide +kernel
  obtain ⟨v, hv⟩ : ∃ v, min n 2147483647 = v := ⟨_, rfl⟩
  have hR : respC (allL ccN [(ccN, z8)]) = ⟨false, false, false, false, false, false, false, v, v, v, v⟩ := by
    rw [all_one22 hnm, hV, four_split (digs_tokL hda hdn)]
    exact four_resp hda hdn (by rw [digS_num h0 h1, hv])
  have HC := box hR
  have S : Box (Sm [(ccN, z8)]) := box (one_sm22 (by decide) (by omega))
  have hv1 : Box (∀ x ∈ getL ccN [(ccN, z8)], x.size ≤ 65000) := box (one_gets22 (by omega))
  have HZZ := box hZ
  clear hV hnm hS hda hdn hsd hR hs hD hZ hz1 hz2 hz3 hz4 hz5 hz6 hz7 hz8
  go_enter Try.func5, Try.ntmps5
  go_wp2
  go_loop [5, 6] (fun x i => ∃ k : Nat, k ≤ z ∧ i = .int .i64 k ∧ x = .string (bs (List.replicate k 48))) (fun _ i => z - (intOf i).toNat)
  case atStart => exact ⟨0, Nat.zero_le _, rfl, rfl⟩
  case round =>
    obtain ⟨k, hk, rfl, rfl⟩ := hrel
    by_cases hlt : k < z
    · have hki : (k : Int) < (z : Int) := by omega
      have HS := box (rep_snoc k)
      obtain ⟨y, hy⟩ : ∃ y, bs (List.replicate k 48) = y := ⟨_, rfl⟩
      have hys : y.size ≤ 30 := by rw [← hy]; show (List.replicate k (48 : UInt8)).length ≤ 30; rw [List.length_replicate]; omega
      rw [hy] at HS
      rw [hy]
      clear hy
      go_wp2
      go_round
      case rel => exact ⟨k + 1, by omega, by go_num, by rw [← HS.out]⟩
      case measure => simp [intOf]; omega
    · have hki : ¬ (k : Int) < (z : Int) := by omega
      have hke : bs (List.replicate k 48) = Z := by rw [← HZZ.out, show k = z from by omega]
      rw [hke]
      clear hke
      go_wp2_with fail
      refine (HDC.out _).mono ?_; rintro e w1 ⟨rfl, hb1⟩
      have B1 := box hb1
      have F1 := box (fs_one22 ccN z8 w1 32)
      have B2 := box (B1.out.alloc B1.out.size (.cells #[.string ccN, .string z8] 32))
      clear hb1
      go_wp2_with fail
      refine (mResp_is (L := [(ccN, z8)]) S hv1 F1 HC).mono ?_; rintro e w2 ⟨rfl, hb2⟩
      have BT := box (B2.out.trans (hb2.mono B2.out.size))
      clear hb2
      have e1 : (v == v) = true := by simp
      go_wp2_with fail
      all_goals
        refine (awake22_any _).mono ?_; rintro e w6 ⟨rfl, hb6⟩
        have B6 := box ((BT.out.alloc BT.out.size _).trans (hb6.mono (BT.out.alloc BT.out.size _).size))
        clear hb6
        go_wp2
        go_ret
        exact ⟨rfl, B6.out⟩
theorem in22 {n : Int} (h : (Lit.int .i64 n).wf = true) : InI64 n := by
  unfold InI64
  simp [Lit.wf, IntKind.min, IntKind.max, IntKind.bits, IntKind.signed] at h
  omega
theorem forms22_walk (n z : Int) (w : World) (hn : (Lit.int .i64 n).wf = true) (hz : (Lit.int .i64 z).wf = true) :
    Calls Try.prog 5 #[.int .i64 n, .int .i64 z] w fun e w' => e = .returned (.bool true) ∧ Below w.heap.size w w' := by
  by_cases h1 : n < 0
  · go_enter Try.func5, Try.ntmps5
    go_wp2
    go_ret
    exact ⟨rfl, Below.refl _ _⟩
  · by_cases h2 : z < 0
    · go_enter Try.func5, Try.ntmps5
      go_wp2
      go_ret
      exact ⟨rfl, Below.refl _ _⟩
    · by_cases h3 : 30 < z
      · go_enter Try.func5, Try.ntmps5
        go_wp2
        go_ret
        exact ⟨rfl, Below.refl _ _⟩
      · obtain ⟨k, rfl⟩ : ∃ k : Nat, z = (k : Int) := ⟨z.toNat, by omega⟩
        have hb := in22 hn
        exact forms22_in n k w (by omega) hb.2 (by omega)
end
section
open Go.RowKit
theorem over22_in (more : Nat) (x : ByteArray) (w : World) (hm : more ≤ 20) (hx : x.size ≤ 20) (ht : Box (tokL x.data.toList = true)) :
    Calls Try.prog 6 #[.int .i64 more, .string x] w fun e w' => e = .returned (.bool true) ∧ Below w.heap.size w w' := by
  have h0 : ¬ (more : Int) < 0 := by omega
  have h1 : ¬ (20 : Int) < (more : Int) := by omega
  have h2 : ¬ (20 : Int) < (x.size : Int) := by omega
  have hx6 : x.size ≤ 65536 := by omega
  have hxl : x.data.toList.length = x.size := by simp
  have hws : IntKind.i64.wrap (64 + (more : Int)) = 64 + (more : Int) := IntWalk.i64_in _ (by omega)
  go_enter Try.func6, Try.ntmps6
  go_wp2_with fail
  refine (rToken22_is hx6 ht).mono ?_; rintro e w1 ⟨rfl, rfl⟩
  go_wp2
  go_loop [5, 6] (fun s i => ∃ k : Nat, k ≤ 63 + more ∧ i = .int .i64 (((k + 1 : Nat) : Int)) ∧ s = .string (bs (wordsL x.data.toList k))) (fun _ i => 64 + more - (intOf i).toNat)
  case atStart => exact ⟨0, Nat.zero_le _, rfl, by rw [show wordsL x.data.toList 0 = x.data.toList from rfl, bs_all22]⟩
  case round =>
    obtain ⟨k, hk, rfl, rfl⟩ := hrel
    by_cases hlt : k < 63 + more
    · have hki : ((k + 1 : Nat) : Int) < 64 + (more : Int) := by omega
      have HS : bs (wordsL x.data.toList k) ++ (⟨#[44]⟩ ++ x) = bs (wordsL x.data.toList (k + 1)) := by
        rw [← words_snoc]
        conv => lhs; rw [bs_of x]
        rfl
      obtain ⟨y, hy⟩ : ∃ y, bs (wordsL x.data.toList k) = y := ⟨_, rfl⟩
      obtain ⟨z, hzz⟩ : ∃ z, (⟨#[44]⟩ : ByteArray) ++ x = z := ⟨_, rfl⟩
      have hys : y.size ≤ 2000 := by
        have e : y.size = (wordsL x.data.toList k).length := by rw [← hy]; rfl
        rw [e, words_len, hxl]
        have : k * (x.size + 1) ≤ 83 * 21 := Nat.mul_le_mul (by omega) (by omega)
        omega
      have hzs : z.size ≤ 21 := by rw [← hzz, ByteArray.size_append]; show 1 + x.size ≤ 21; omega
      rw [hy, hzz] at HS
      have HSS := box HS
      rw [hy]
      clear HS hy hxl
      go_wp2
      go_round
      case rel => exact ⟨k + 1, by omega, by go_num, by rw [HSS.out]⟩
      case measure => simp [intOf]; omega
    · have hki : ¬ ((k + 1 : Nat) : Int) < 64 + (more : Int) := by omega
      have hke : k = 63 + more := by omega
      obtain ⟨y, hy⟩ : ∃ y, bs (wordsL x.data.toList k) = y := ⟨_, rfl⟩
      have hys : y.size ≤ 2000 := by
        have e : y.size = (wordsL x.data.toList k).length := by rw [← hy]; rfl
        rw [e, words_len, hxl]
        have : k * (x.size + 1) ≤ 83 * 21 := Nat.mul_le_mul (by omega) (by omega)
        omega
      have hnm : nmd ccN (ccN, y) = true := by
        show foldL ccN.data.toList ccN.data.toList = true
        decide +kernel
      have hA : (allL ccN [(ccN, y)]).length = 64 := by
        rw [all_one22 hnm, ← hy, bs_toList]; exact words_full ht.out (by omega)
      obtain ⟨c, hc⟩ : ∃ c, respC (allL ccN [(ccN, y)]) = c := ⟨_, rfl⟩
      obtain ⟨d, hd⟩ : ∃ d, reqC ([(ccN, y)].any (nmd ccN)) (allL ccN [(ccN, y)]) (allL pgN [(ccN, y)]) = d := ⟨_, rfl⟩
      have hcn : c.ns = true := by rw [← hc]; exact resp_ns (by omega)
      have hdn : d.ns = true := by rw [← hd]; exact req_ns (by omega)
      have HC := box hc
      have HD := box hd
      have S : Box (Sm [(ccN, y)]) := box (one_sm22 (by decide) (by omega))
      have hv : Box (∀ nm, ∀ x ∈ getL nm [(ccN, y)], x.size ≤ 65000) := box (fun nm => one_gets22 (by omega))
      have hv1 : Box (∀ x ∈ getL ccN [(ccN, y)], x.size ≤ 65000) := box (hv.out ccN)
      have F0 := box (fs_one22 ccN y w 32)
      have B0 := box (below_new w (.cells #[.string ccN, .string y] 32))
      rw [hy]
      clear hy hc hd hA hnm hke hxl
      go_wp2_with fail
      refine (mResp_is (L := [(ccN, y)]) S hv1 F0 HC).mono ?_; rintro e w1 ⟨rfl, hb1⟩
      rw [hcn]
      have r1 := run_field_ns true c.nc c.mr c.pr c.pv c.pb c.oc c.ma c.sm c.mf c.ms w1
      have B1 := box (B0.out.trans (hb1.mono B0.out.size))
      have F1 := box (fs_one22 ccN y w1 32)
      have B2 := box (B1.out.alloc B1.out.size (.cells #[.string ccN, .string y] 32))
      clear hb1
      go_wp2_with fail
      refine (mReqC_is (L := [(ccN, y)]) S hv F1 HD).mono ?_; rintro e w2 ⟨rfl, hb2⟩
      rw [hdn]
      have r2 := run_field_ns true d.nc d.mr d.pr d.pv d.pb d.oc d.ma d.sm d.mf d.ms w2
      have B3 := box (B2.out.trans (hb2.mono B2.out.size))
      clear hb2
      go_wp2_with fail
      refine (awake22_any _).mono ?_; rintro e w6 ⟨rfl, hb6⟩
      have B6 := box (B3.out.trans (hb6.mono B3.out.size))
      clear hb6
      go_wp2
      go_ret
      exact ⟨rfl, B6.out⟩
theorem overflow22_walk (m : Int) (x : ByteArray) (w : World) (hm : (Lit.int .i64 m).wf = true) (hx : x.size ≤ maxLen) :
    Calls Try.prog 6 #[.int .i64 m, .string x] w fun e w' => e = .returned (.bool true) ∧ Below w.heap.size w w' := by
  unfold maxLen at hx
  by_cases h1 : m < 0
  · go_enter Try.func6, Try.ntmps6
    go_wp2
    go_ret
    exact ⟨rfl, Below.refl _ _⟩
  · by_cases h2 : 20 < m
    · go_enter Try.func6, Try.ntmps6
      go_wp2
      go_ret
      exact ⟨rfl, Below.refl _ _⟩
    · by_cases h3 : 20 < x.size
      · have h3i : (20 : Int) < (x.size : Int) := by omega
        go_enter Try.func6, Try.ntmps6
        go_wp2
        go_ret
        exact ⟨rfl, Below.refl _ _⟩
      · have h3i : ¬ (20 : Int) < (x.size : Int) := by omega
        have hx6 : x.size ≤ 65536 := by omega
        rcases ht : tokL x.data.toList with _ | _
        · have HT := box ht
          clear ht h3 hx
          go_enter Try.func6, Try.ntmps6
          go_wp2_with fail
          refine (rToken22_is hx6 HT).mono ?_; rintro e w1 ⟨rfl, rfl⟩
          go_wp2
          go_ret
          exact ⟨rfl, Below.refl _ _⟩
        · obtain ⟨k, rfl⟩ : ∃ k : Nat, m = (k : Int) := ⟨m.toNat, by omega⟩
          exact over22_in k x w (by omega) (by omega) (box ht)
end
end Go.Proofs.Ytlcojfkkeommoaa.Asc
