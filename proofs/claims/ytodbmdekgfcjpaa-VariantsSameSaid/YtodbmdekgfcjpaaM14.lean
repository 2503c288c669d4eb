/- Merged texts: BldJsp VarMem2 VarRef7 GrpMine VarPars VarRef9 LisMine. -/
import Derived.Test.YtodbmdekgfcjpaaM03
import Derived.Test.YtodbmdekgfcjpaaM04
import Derived.Test.YtodbmdekgfcjpaaM06
import Derived.Test.YtodbmdekgfcjpaaM07
import Derived.Test.YtodbmdekgfcjpaaM08
import Derived.Test.YtodbmdekgfcjpaaM09
import Derived.Test.YtodbmdekgfcjpaaM10
import Derived.Test.YtodbmdekgfcjpaaM11
import Derived.Test.YtodbmdekgfcjpaaM12
import Derived.Test.YtodbmdekgfcjpaaM13
import Derived.Deep.AppendLies
set_option linter.unusedVariables false
set_option linter.unusedSimpArgs false
set_option maxRecDepth 100000
namespace Go.Proofs.Ytodbmdekgfcjpaa.Asc
section
open Go.RowKit
/-- texts with a space between -/
def joinSp : List (List UInt8) → List UInt8
  | [] => []
  | x :: r => x ++ r.flatMap fun y => 32 :: y
def joinSB (L : List ByteArray) : ByteArray := bs (joinSp (L.map fun x => x.data.toList))
theorem joinSp_more {V : List (List UInt8)} {k : Nat} (h : k < V.length) : joinSp (V.take (k + 1)) = if k = 0 then V[k] else joinSp (V.take k) ++ [32] ++ V[k] := by
  cases V with
  | nil => simp at h
  | cons x r =>
    cases k with
    | zero => simp [joinSp]
    | succ k =>
      have hk : k < r.length := by simpa using h
      rw [if_neg (by omega), List.take_succ_cons, List.take_succ_cons, List.getElem_cons_succ]
      show x ++ (r.take (k + 1)).flatMap _ = (x ++ (r.take k).flatMap _ ++ [32]) ++ r[k]
      rw [take_next hk, List.flatMap_append]
      simp
theorem joinW_sp (V : List (List UInt8)) : joinW V = joinSp (V.map wordW) := by
  cases V with
  | nil => rfl
  | cons x r =>
    show wordW x ++ r.flatMap (fun y => 32 :: wordW y) = wordW x ++ (r.map wordW).flatMap (fun y => 32 :: y)
    rw [List.flatMap_map]
theorem joinSp_len {ms : List (List UInt8)} (hz : ∀ x ∈ ms, x.length ≤ 65536) : ∀ k, (joinSp (ms.take k)).length ≤ k * 65540
  | 0 => by simp [joinSp]
  | k + 1 => by
    have ih := joinSp_len hz k
    by_cases h : k < ms.length
    · have := hz ms[k] (List.getElem_mem h)
      rw [joinSp_more h]
      split
      · omega
      · simp only [List.length_append, List.length_cons, List.length_nil]; omega
    · have e : ms.take (k + 1) = ms.take k := by rw [List.take_of_length_le (by omega), List.take_of_length_le (by omega)]
      rw [e]
      exact Nat.le_trans ih (Nat.mul_le_mul_right _ (Nat.le_succ k))
theorem joinSp_two {a b : List UInt8} {r : List (List UInt8)} : joinSp (a :: b :: r) ≠ [] := by
  unfold joinSp
  simp
theorem Jsp0_any (a : Option Addr) (cap : Nat) (w : World) :
    Calls Try.prog 40 #[.slice a 0 cap, .string ⟨#[32]⟩] w fun e w' => e = .returned (.string ⟨#[]⟩) ∧ w = w' := by
  go_enter Try.func40, Try.ntmps40
  go_wp2
  go_ret
  exact ⟨rfl, rfl⟩
theorem Jsp1_any (q off cap : Nat) (x : ByteArray) (w : World) (c0 : w.cell? ⟨q, off, none⟩ = some (.string x)) :
    Calls Try.prog 40 #[.slice (some ⟨q, off, none⟩) 1 cap, .string ⟨#[32]⟩] w fun e w' => e = .returned (.string x) ∧ w = w' := by
  go_enter Try.func40, Try.ntmps40
  go_wp2
  go_ret
  exact ⟨rfl, rfl⟩
def Js1 (L : List ByteArray) (n i : Value) : Prop := ∃ k : Nat, k ≤ L.length ∧ i = .int .i64 k ∧ n = .int .i64 ((L.length - 1 + lenT L k : Nat) : Int)
def Js2 (ms : List (List UInt8)) (B : Nat) (w : World) (i : Value) (wr : World) : Prop := ∃ k : Nat, k + 1 ≤ ms.length ∧ i = .int .i64 k ∧ Box (Bld wr B B (joinSp (ms.take (k + 1)))) ∧ Box (Below B w wr)
set_option maxHeartbeats 2000000 in
theorem JspN_any (q off cap : Nat) (L : List ByteArray) (w : World) (h2 : 2 ≤ L.length) (hl : L.length ≤ 65536) (hcap : L.length ≤ cap) (hz : Box (∀ x ∈ L, x.size ≤ 65536)) (hF : Box (Ss w (some ⟨q, off, none⟩) L)) :
    Calls Try.prog 40 #[.slice (some ⟨q, off, none⟩) L.length cap, .string ⟨#[32]⟩] w fun e w' => e = .returned (.string (joinSB L)) ∧ Below w.heap.size w w' := by
  have hdv : ¬ (9223372036854775807 / ((L.length : Int) - 1) ≤ 1) := by
    have : 3 ≤ 9223372036854775807 / ((L.length : Int) - 1) := by
      rw [Int.le_ediv_iff_mul_le (by omega)]; omega
    omega
  have hne0 : ((L.length : Int) == 0) = false := beq_eq_false_iff_ne.2 (by omega)
  have hne1 : ((L.length : Int) == 1) = false := beq_eq_false_iff_ne.2 (by omega)
  go_enter Try.func40, Try.ntmps40
  go_wp2_with fail
  go_loop [5, 41] (fun n i => Js1 L n i) (fun _ i => L.length - (intOf i).toNat)
  case atStart => exact ⟨0, Nat.zero_le _, rfl, by unfold lenT; simp; omega⟩
  case round =>
    obtain ⟨k, hk, rfl, rfl⟩ := hrel
    have hlz := lenT_le hz.out k
    by_cases hlt : k < L.length
    · obtain ⟨q', off', e, c0⟩ := hF.out k hlt
      cases e
      have hx := hz.out L[k] (List.getElem_mem hlt)
      have HN := box (lenT_next hlt)
      obtain ⟨A, hA⟩ : ∃ A, lenT L k = A := ⟨_, rfl⟩
      have HA := box hA
      rw [hA] at hlz ⊢
      clear hA
      go_wp2
      go_round
      case rel => exact ⟨k + 1, by omega, by go_num, by rw [HN.out, HA.out]; go_num⟩
      case measure => simp [intOf]; omega
    · obtain rfl : k = L.length := by omega
      obtain ⟨n, hn⟩ : ∃ n, L.length - 1 + lenT L L.length = n := ⟨_, rfl⟩
      have hn8 : n ≤ 281474976710656 := by omega
      rw [hn]
      clear hn hlz
      obtain ⟨ms, hms⟩ : ∃ ms, (L.map fun x => x.data.toList) = ms := ⟨_, rfl⟩
      have HJ : Box (joinSB L = bs (joinSp ms)) := box (by unfold joinSB; rw [hms])
      have hml : ms.length = L.length := by rw [← hms, List.length_map]
      have HME : Box (∀ k (h : k < L.length), ms[k]'(by omega) = L[k].data.toList) := box (fun k h => by simp only [← hms, List.getElem_map])
      have HML : Box (∀ x ∈ ms, x.length ≤ 65536) := box (fun x hx => by
        rw [← hms] at hx
        obtain ⟨y, hy, rfl⟩ := List.mem_map.mp hx
        have := hz.out y hy
        simpa using this)
      clear hms
      have hq : q < w.heap.size := by
        obtain ⟨q', off', e, c0⟩ := hF.out 0 (by omega)
        cases e
        exact cell_lt c0
      go_wp2_with fail
      refine (Grow_new w.heap.size w.heap.size n _ (Nat.le_refl _) (heap_alloc_new w _) (by simp) hn8).mono ?_; rintro e w1 ⟨rfl, hA1, hb1⟩
      have A1 : Box (Bld w1 w.heap.size w.heap.size []) := box (.inr hA1)
      have B1 := box ((below_new w _).trans hb1)
      have hs1 := B1.out.size
      clear hA1 hb1
      have hl0 : 0 < L.length := by omega
      obtain ⟨q', off', e, c0⟩ := (hF.out.below B1.out) 0 hl0
      cases e
      rw [Nat.add_zero] at c0
      have hx0 := hz.out L[0] (List.getElem_mem hl0)
      go_wp2_with fail
      refine (WriteString_any w.heap.size w.heap.size [] L[0] _ A1 (by rw [List.length_nil]; omega) hs1).mono ?_; rintro e w2 ⟨rfl, hA2, hb2⟩
      have A2 : Box (Bld w2 w.heap.size w.heap.size (joinSp (ms.take 1))) := box (.inr (by
        rw [joinSp_more (k := 0) (by omega), if_pos rfl, HME.out 0 hl0]; exact hA2))
      have B2 := box (B1.out.trans hb2)
      clear hA2 hb2 c0
      go_wp2_with fail
      go_loopw [65] (fun i wr => Js2 ms w.heap.size w i wr) (fun i _ => L.length - (intOf i).toNat)
      case atStart => exact ⟨0, by omega, rfl, A2, B2⟩
      case round =>
        obtain ⟨k, hk, rfl, A3, B3⟩ := hrel
        have hs3 := B3.out.size
        have hjl := joinSp_len HML.out (k + 1)
        by_cases hlt : k + 1 < L.length
        · obtain ⟨q', off', e, c0⟩ := (hF.out.below B3.out) (k + 1) hlt
          cases e
          rw [show off + (k + 1) = off + 1 + k from by omega] at c0
          have hxk := hz.out L[k + 1] (List.getElem_mem hlt)
          go_wp2_with fail
          refine (WriteString_any w.heap.size w.heap.size _ ⟨#[32]⟩ _ A3 (by show _ + 1 ≤ _; omega) hs3).mono ?_; rintro e w4 ⟨rfl, hA4, hb4⟩
          have A4 : Box (Bld w4 w.heap.size w.heap.size (joinSp (ms.take (k + 1)) ++ [32])) := box (.inr hA4)
          have B4 := box (B3.out.trans hb4)
          have hs4 := B4.out.size
          clear hA4 hb4
          go_wp2_with fail
          refine (WriteString_any w.heap.size w.heap.size _ L[k + 1] _ A4 (by rw [List.length_append]; show _ + 1 + _ ≤ _; omega) hs4).mono ?_; rintro e w5 ⟨rfl, hA5, hb5⟩
          have A5 : Box (Bld w5 w.heap.size w.heap.size (joinSp (ms.take (k + 1 + 1)))) := box (.inr (by
            rw [joinSp_more (k := k + 1) (by omega), if_neg (by omega), HME.out (k + 1) hlt]; exact hA5))
          have B5 := box (B4.out.trans hb5)
          clear hA5 hb5 c0
          go_wp2
          go_roundw
          case rel => exact ⟨k + 1, by omega, by go_num, A5, B5⟩
          case measure => simp [intOf]; omega
        · have hfull : ms.take (k + 1) = ms := List.take_of_length_le (by omega)
          rw [hfull] at A3
          have hne : joinSp ms ≠ [] := by
            match ms, hml, h2 with
            | [], e, _ => simp at e; omega
            | [a], e, _ => simp at e; omega
            | a :: b :: r, _, _ => exact joinSp_two
          go_wp2_with fail
          refine (String_any w.heap.size w.heap.size _ _ A3 hne).mono ?_; rintro e w6 ⟨rfl, hb6⟩
          have B6 := box (B3.out.trans hb6)
          clear hb6
          go_wp2
          go_ret
          exact ⟨by rw [HJ.out]; rfl, B6.out⟩
end
section
open Go.RowKit
theorem heap_lt {w : World} {b : Nat} {o : Obj} (h : w.heap[b]? = some o) : b < w.heap.size := by
  rcases Nat.lt_or_ge b w.heap.size with q | q
  · exact q
  · rw [Array.getElem?_eq_none q] at h; cases h
theorem info_axis : (Try.prog.info? 55).map (fun i => (i.zero, i.size, i.bytes)) = some (some (.agg #[.string ⟨#[]⟩, .slice none 0 0]), 2, 40) := by kernel_rfl
/-- the cells of the axes L, the values' lists owned, too -/
def CellsA (w : World) (B : Nat) (cs : List Value) (L : List AX) : Prop :=
  cs.length = 2 * L.length ∧ (∀ u ∈ cs, u.oneCell' = true) ∧ ∀ i (h : i < L.length), cs[i * 2]? = some (.string L[i].1) ∧ ∃ u, cs[i * 2 + 1]? = some u ∧ OwnS w B u L[i].2
def OwnAx (w : World) (B : Nat) (v : Value) (L : List AX) : Prop := ∃ cs, w.ownsRow B 55 2 v L.length cs ∧ CellsA w B cs L
theorem OwnS.ssv {w : World} {B : Nat} {v : Value} {V : List ByteArray} (h : OwnS w B v V) : SsV w v V := by
  obtain ⟨a, c, e, hs, hc⟩ := h.ss
  exact ⟨a, c, e, hs, hc⟩
theorem OwnAx.nil (w : World) (B : Nat) : OwnAx w B (.slice none 0 0) [] := ⟨[], World.ownsRow_nil _ _ _ _, rfl, by simp, fun i h => absurd h (by simp)⟩
theorem CellsA.next {w w' : World} {B : Nat} {cs : List Value} {L : List AX} (h : CellsA w B cs L) (hb : Below w.heap.size w w') : CellsA w' B cs L :=
  ⟨h.1, h.2.1, fun i hi => by obtain ⟨h1, u, h2, h3⟩ := h.2.2 i hi; exact ⟨h1, u, h2, own_below h3 hb⟩⟩
theorem OwnAx.next {w w' : World} {B : Nat} {v : Value} {L : List AX} (h : OwnAx w B v L) (hb : Below w.heap.size w w') : OwnAx w' B v L := by
  obtain ⟨cs, h1, h2⟩ := h
  exact ⟨cs, own_below h1 hb, h2.next hb⟩
theorem OwnAx.axs {w : World} {B : Nat} {v : Value} {L : List AX} (h : OwnAx w B v L) : ∃ a cap, v = .slice a L.length cap ∧ Axs w a L ∧ L.length ≤ cap := by
  obtain ⟨cs, h, hC⟩ := h
  rcases h.2 with ⟨rfl, hn⟩ | ⟨g, cap, cur, rfl, hB, hg, hc, hm, hs, ht⟩
  · exact ⟨none, 0, by rw [hn], fun i hi => by omega, by omega⟩
  · refine ⟨_, cap, rfl, fun i hi => ?_, hc⟩
    obtain ⟨q0, u, q1, q2⟩ := hC.2.2 i hi
    have hl := hC.1
    rw [← ht] at q0 q1
    rw [List.getElem?_take] at q0 q1
    rw [if_pos (by omega)] at q0 q1
    refine ⟨g, 0, u, rfl, ?_, ?_, q2.ssv⟩
    · simp only [World.cell?, hg]; simpa using q0
    · simp only [World.cell?, hg]; simpa [Nat.add_assoc] using q1
theorem own_grown {w w' : World} {B n : Nat} {v u : Value} {cs : List Value} {V : List ByteArray} (hv : w.ownsRow B 55 2 v n cs) (hu : OwnS w B u V) (hg : w.grownBy w' v.ownBlock) : OwnS w' B u V := by
  refine ⟨hu.1, ?_⟩
  rcases hu.2 with q | ⟨g, cap, cur, hv2, hB, hgg, r⟩
  · exact .inl q
  · refine .inr ⟨g, cap, cur, hv2, hB, ?_, r⟩
    rw [hg.block g (heap_lt hgg) (fun e => ?_)]
    · exact hgg
    · rcases hv.2 with ⟨rfl, _⟩ | ⟨g2, cap2, cur2, rfl, _, hg2, _⟩
      · simp [Value.ownBlock] at e
      · simp [Value.ownBlock] at e
        subst e
        rw [hgg] at hg2
        simp at hg2
theorem CellsA.grown {w w' : World} {B n : Nat} {v : Value} {xs cs : List Value} {L : List AX} (h : CellsA w B cs L) (hv : w.ownsRow B 55 2 v n xs) (hg : w.grownBy w' v.ownBlock) : CellsA w' B cs L :=
  ⟨h.1, h.2.1, fun i hi => by obtain ⟨h1, u, h2, h3⟩ := h.2.2 i hi; exact ⟨h1, u, h2, own_grown hv h3 hg⟩⟩
theorem CellsA.more {w : World} {B : Nat} {cs : List Value} {L : List AX} {n : ByteArray} {u : Value} {V : List ByteArray} (h : CellsA w B cs L) (hu : OwnS w B u V) : CellsA w B (cs ++ [.string n, u]) (L ++ [(n, V)]) := by
  have hone : u.oneCell' = true := by obtain ⟨a, c, e, _⟩ := hu.ss; rw [e]; rfl
  refine ⟨by rw [List.length_append, List.length_append, h.1]; simp; omega, fun x hx => ?_, fun i hi => ?_⟩
  · rcases List.mem_append.1 hx with q | q
    · exact h.2.1 x q
    · simp at q
      rcases q with rfl | rfl
      · rfl
      · exact hone
  · by_cases e : i < L.length
    · obtain ⟨h1, y, h2, h3⟩ := h.2.2 i e
      have hl := h.1
      rw [List.getElem_append_left e, List.getElem?_append_left (by omega), List.getElem?_append_left (by omega)]
      exact ⟨h1, y, h2, h3⟩
    · have hie : i = L.length := by rw [List.length_append] at hi; simp at hi; omega
      subst hie
      have hl := h.1
      rw [List.getElem_append_right (Nat.le_refl _), List.getElem?_append_right (by omega), List.getElem?_append_right (by omega)]
      rw [show L.length * 2 - cs.length = 0 from by omega, show L.length * 2 + 1 - cs.length = 1 from by omega]
      simp only [Nat.sub_self]
      exact ⟨rfl, u, rfl, hu⟩
/-- append of one axis that lies in a block of its own -/
theorem wpList_append_axis (w : World) {ops : Array Oper} {rest : List Oper} {o : Oper} {a : Act} {Q : Exit → Act → World → Prop} (hgd : o.guard = none) (s x : Operand)
    (ho : o.op = .call { callee := .builtin .append, args := #[s, x], argTypes := #[35, 35] })
    (B : Nat) (v : Value) (L : List AX) (hs : a.eval s = v) (hown : OwnAx w B v L)
    (g : Nat) (c : Nat) (hx : a.eval x = .slice (some ⟨g, 0, none⟩) 1 c) (n : ByteArray) (u : Value) (V : List ByteArray) (h0 : w.cell? ⟨g, 0, none⟩ = some (.string n)) (h1 : w.cell? ⟨g, 1, none⟩ = some u) (hu : OwnS w B u V) (hl : L.length ≤ 65536) (hB : B ≤ w.heap.size)
    (h : ∀ v' w', OwnAx w' B v' (L ++ [(n, V)]) → Below B w w' → wpList Try.prog ops Q rest (a.put o.dst v') w') : wpList Try.prog ops Q (o :: rest) a w := by
  obtain ⟨i0, hi0, hz0, hz1, hz2⟩ := info_parts info_axis
  obtain ⟨cs, hown, hC⟩ := hown
  have hone : u.oneCell' = true := by obtain ⟨b, c, e, _⟩ := hu.ss; rw [e]; rfl
  refine wpList_append_own (P := Try.prog) w hgd s x 35 ho B 55 i0 _ 2 40 Try.underlying35 hi0 hz0 hz1 hz2 rfl (by decide) v L.length cs hs hown ⟨g, 0, none⟩ 1 c [.string n, u] hx rfl ?_ ?_ (by unfold maxLen; omega) (by omega) hB ?_
  · intro j y hj
    match j, hj with
    | 0, hj => simp at hj; subst hj; simpa [Addr.add] using h0
    | 1, hj => simp at hj; subst hj; simpa [Addr.add] using h1
  · intro y hy; simp at hy; rcases hy with rfl | rfl
    · rfl
    · exact hone
  · intro v' w' q1 q2 _
    refine h v' w' ⟨cs ++ [.string n, u], by rw [List.length_append]; exact q1, ?_⟩ ((Below.refl _ _).grown q2 hB (fun k hk => own_block hown k hk))
    exact (hC.grown hown q2).more (own_grown hown hu q2)
end
section
open Go.RowKit
def varW (w w' : World) (L : List F) (e : Ending) : Prop := ∃ v, e = .returned (.tuple #[v, .int .i64 (varsE L)]) ∧ OwnAx w' w.heap.size v (varsX L) ∧ Below w.heap.size w w'
theorem varW_no {w w' : World} {L : List F} {k : Int} (h : Box (varsE L = k ∧ varsX L = [])) (hb : Below w.heap.size w w') : varW w w' L (.returned (.tuple #[.slice none 0 0, .int .i64 k])) := by
  obtain ⟨h1, h2⟩ := h.out
  exact ⟨_, by rw [h1], by rw [h2]; exact OwnAx.nil _ _, hb⟩
def PvRel (M : List (List UInt8)) (T : Option (List AX)) (W : World) (B : Nat) (v i : Value) (wr : World) : Prop :=
  ∃ (j : Nat) (acc : List AX), i = .int .i64 j ∧ j ≤ M.length ∧ acc.length ≤ j ∧ T = memsV (M.drop j) acc ∧ Box (smallA acc) ∧ OwnAx wr B v acc ∧ Below W.heap.size W wr
theorem small_more {L : List AX} {x : AX} {n : Nat} (h : smallA L) (hx : szA x n) (hn : n ≤ 65000) : smallA (L ++ [x]) := fun i hi => by
  by_cases e : i < L.length
  · rw [List.getElem_append_left e]; exact h i e
  · have hie : i = L.length := by rw [List.length_append] at hi; simp at hi; omega
    subst hie
    rw [List.getElem_append_right (Nat.le_refl _)]
    simp only [Nat.sub_self, List.getElem_cons_zero]
    exact ⟨by have := hx.1; omega, by have := hx.2.1; omega, fun j hj => by have := hx.2.2 x.2[j] (List.getElem_mem hj); omega⟩
theorem OwnAx.le {w : World} {B B' : Nat} {v : Value} {L : List AX} (h : OwnAx w B v L) (hB : B' ≤ B) : OwnAx w B' v L := by
  obtain ⟨cs, h1, h2⟩ := h
  exact ⟨cs, Go.Joins.ownsRow_le h1 hB, h2.1, h2.2.1, fun i hi => by obtain ⟨q1, u, q2, q3⟩ := h2.2.2 i hi; exact ⟨q1, u, q2, Go.Joins.ownsRow_le q3 hB⟩⟩
end
section
open Go.RowKit
def GpRel (T : Option (List (List UInt8))) (n : Nat) (w : World) (v r m : Value) (wr : World) : Prop :=
  ∃ (M : List (List UInt8)) (t : ByteArray) (b : Bool), r = .string t ∧ m = .bool b ∧ t.size ≤ n ∧ M.length + t.size + (if b then 1 else 0) ≤ n + 1 ∧ T = grpF (moreL 32 b t.data.toList) M ∧ OwnS wr w.heap.size v (M.map bs) ∧ Below w.heap.size w wr
def msr15 (m r : Value) : Nat := match m, r with | .bool true, .string t => t.size + 1 | _, _ => 0
theorem pc_eat {sep : UInt8} {l p r : List UInt8} {m : Bool} (h : pcL sep l = (p, r, m)) : p.length + r.length + (if m then 1 else 0) = l.length := by
  have key : ∀ (l : List UInt8) (s : Nat) (acc : List UInt8), (pcF sep s l acc).1.length + (pcF sep s l acc).2.1.length + (if (pcF sep s l acc).2.2 then 1 else 0) = acc.length + l.length := by
    intro l
    induction l with
    | nil => intro s acc; simp [pcF]
    | cons c r ih =>
      intro s acc
      rw [pcF_cons]
      split
      · simp; omega
      · rw [ih]; simp; omega
  have := key l 0 []
  rw [show pcF sep 0 l [] = (p, r, m) from h] at this
  simpa using this
set_option maxHeartbeats 4000000 in
theorem grpLoop_any (s m : ByteArray) (T : Option (List (List UInt8))) (w : World) (hs : s.size ≤ 65000) (hm : m.size ≤ 65000) (h1 : Box (s.data.toList.head? = some 40)) (h2 : Box ((s.extract 1 s.size).data.toList.getLast? = some 41)) (hx : Box ((s.extract 1 s.size).extract 0 ((s.extract 1 s.size).size - 1) = m)) (hT : Box (valsL m.data.toList [] = T)) :
    Calls Try.prog 33 #[.string s] w fun e w' => valW w w' T e := by
  obtain ⟨m1, hm1⟩ : ∃ m1, s.extract 1 s.size = m1 := ⟨_, rfl⟩
  have hz1 : m1.size ≤ 65000 := by rw [← hm1]; simp; omega
  have HM1 := box hm1
  rw [hm1] at h2 hx
  clear hm1
  have HT : Box (T = grpF (cutL 32 m.data.toList) []) := box (by rw [← hT.out]; exact vals_grp _ _ _ (Nat.le_refl _))
  go_enter Try.func33, Try.ntmps33
  go_wp2_with fail
  refine (cutPre40_yes hs h1).mono ?_; rintro e w1 ⟨rfl, rfl⟩
  rw [HM1.out]
  go_wp2_with fail
  refine (cutSuf41_yes hz1 h2).mono ?_; rintro e w1 ⟨rfl, rfl⟩
  rw [hx.out]
  go_wp2_with fail
  go_loopw [7, 8, 9] (fun v r b wr => GpRel T m.size w v r b wr) (fun _ r b _ => msr15 b r)
  case atStart => exact ⟨[], m, true, rfl, rfl, Nat.le_refl _, by simp, HT.out, OwnS.nil _ _, Below.refl _ _⟩
  case round =>
    obtain ⟨M, t, b, rfl, rfl, hts, hML, hTM, hOM, hbel⟩ := hrel
    have O0 := box hOM
    have BL := box hbel
    have HM := box hTM
    have hBw := hbel.size
    obtain ⟨av, cv, rfl, _, _⟩ := hOM.ss
    rw [List.length_map] at O0 ⊢
    clear hOM hbel hTM
    rcases b with _ | _
    · have HF : Box (T = some M) := box (by rw [HM.out]; rfl)
      clear hML
      go_wp2
      go_ret2
      exact ⟨_, by rw [HF.out]; rfl, by rw [HF.out]; exact O0.out, BL.out, fun h => by rw [HF.out] at h; cases h⟩
    · have ht6 : t.size ≤ 65000 := by omega
      obtain ⟨p, r, b2, hp⟩ : ∃ p r b2, pcL 32 t.data.toList = (p, r, b2) := ⟨_, _, _, rfl⟩
      have HV : Box (pcV 32 t.data.toList = .tuple #[.string (bs p), .string (bs r), .bool b2]) := box (by unfold pcV; rw [hp])
      have hcut : T = grpF (p :: moreL 32 b2 r) M := by
        have := cut_piece5 t.data.toList
        rw [hp] at this
        rw [HM.out]
        show grpF (cutL 32 t.data.toList) M = _
        rw [this]
      have hsz := pc_eat hp
      rw [show t.data.toList.length = t.size from by simp] at hsz
      have hrz : (bs r).size ≤ m.size := by rw [bs_size]; omega
      have hms : Box (msr15 (.bool b2) (.string (bs r)) < t.size + 1) := box (by
        cases b2
        · exact Nat.zero_lt_succ _
        · show (bs r).size + 1 < t.size + 1
          rw [bs_size]; simp at hsz; omega)
      have hpz : (bs p).size ≤ 65000 := by rw [bs_size]; omega
      have HCut := box hcut
      have HML := box hML
      have HSZ := box hsz
      have h32 : ((32 : UInt8).toNat : Int) = 32 := rfl
      clear hp hcut HM hML hsz
      by_cases hpe : p = []
      · have hpe2 : (bs p).toList.isEmpty = true := by rw [toList_bs, hpe]; rfl
        have HN : Box (T = grpF (moreL 32 b2 (bs r).data.toList) M) := box (by rw [HCut.out, hpe, grpF_skip, bs_toList])
        have HN2 : Box (M.length + (bs r).size + (if b2 then 1 else 0) ≤ m.size + 1) := box (by
          have h1 := HML.out
          have h2 := HSZ.out
          rw [bs_size]
          simp only [if_true] at h1
          omega)
        have hpb : (bs p) = ⟨#[]⟩ := by rw [hpe]; rfl
        rw [hpb] at HV
        clear HCut hpe hpe2 hpb hpz HML HSZ
        go_wp2_with fail
        refine (pieceCut_any t 32 _ ht6).mono ?_; rintro e w1 ⟨rfl, hb1⟩
        rw [HV.out]
        have O1 := box (own_below O0.out hb1)
        have B1 := box (BL.out.trans (hb1.mono hBw))
        clear hb1
        go_wp2
        go_roundw
        case rel => exact ⟨M, bs r, b2, rfl, rfl, hrz, HN2.out, HN.out, O1.out, B1.out⟩
        case measure => exact hms.out
      · have hpe2 : ((bs p).toList == []) = false := by
          rw [toList_bs]; exact beq_eq_false_iff_ne.2 hpe
        have hpe3 : (bs p).toList.isEmpty = false := by
          rw [toList_bs]
          cases p with
          | nil => exact absurd rfl hpe
          | cons c r => rfl
        have HNE : Box ((bs p).data.toList ≠ []) := box (by rw [bs_toList]; exact hpe)
        cases hu : readV p with
        | none =>
          have HF : Box (T = none) := box (by rw [HCut.out, grpF_bad hpe hu])
          have HR : Box (rdV (bs p) = .tuple #[.string ⟨#[]⟩, .bool false]) := box (by unfold rdV; rw [bs_toList, hu])
          clear HCut hpe hu HML HSZ
          go_wp2_with fail
          refine (pieceCut_any t 32 _ ht6).mono ?_; rintro e w1 ⟨rfl, hb1⟩
          rw [HV.out]
          have B1 := box (BL.out.trans (hb1.mono hBw))
          clear hb1
          go_wp2_with fail
          refine (parseVal_any (bs p) _ _ hpz HNE HR).mono ?_; rintro e w2 ⟨rfl, hb2⟩
          have B2 := box (B1.out.trans (hb2.mono B1.out.size))
          clear hb2
          go_wp2
          go_ret2
          exact valW_none HF B2.out
        | some u =>
          obtain ⟨x, hx⟩ : ∃ x, bs u = x := ⟨_, rfl⟩
          have HN : Box (T = grpF (moreL 32 b2 (bs r).data.toList) (M ++ [u])) := box (by rw [HCut.out, grpF_more hpe hu, bs_toList])
          have HR : Box (rdV (bs p) = .tuple #[.string x, .bool true]) := box (by unfold rdV; rw [bs_toList, hu, ← hx])
          have HX : Box ((M ++ [u]).map bs = M.map bs ++ [x]) := box (by rw [List.map_append, List.map_cons, List.map_nil, hx])
          have hm6 : Box ((M.map bs).length ≤ 65536) := box (by rw [List.length_map]; have := HML.out; omega)
          have HN2 : Box ((M ++ [u]).length + (bs r).size + (if b2 then 1 else 0) ≤ m.size + 1) := box (by
            have h1 := HML.out
            have h2 := HSZ.out
            have h3 : 1 ≤ p.length := by
              cases p with
              | nil => exact absurd rfl hpe
              | cons c r => simp
            rw [bs_size, List.length_append]
            simp only [if_true] at h1
            simp only [List.length_cons, List.length_nil]
            omega)
          clear HCut hpe hu hx HML HSZ
          go_wp2_with fail
          refine (pieceCut_any t 32 _ ht6).mono ?_; rintro e w1 ⟨rfl, hb1⟩
          rw [HV.out]
          have O1 := box (own_below O0.out hb1)
          have B1 := box (BL.out.trans (hb1.mono hBw))
          clear hb1
          go_wp2_with fail
          refine (parseVal_any (bs p) _ _ hpz HNE HR).mono ?_; rintro e w2 ⟨rfl, hb2⟩
          have O2 := box (own_below O1.out hb2)
          have B2 := box (B1.out.trans (hb2.mono B1.out.size))
          have hBw2 := B2.out.size
          clear hb2
          go_wp2_with (at_builtin; refine wpList_append_str _ rfl (.tmp 46) (.tmp 48) rfl w.heap.size _ (M.map bs) rfl ?a1 _ _ rfl x ?b1 ?c1 ?d1 ?_)
          case a1 => exact own_below O2.out (below_new _ _)
          case b1 => go_simp
          case c1 => exact hm6.out
          case d1 => simp; omega
          intro v3 w3 hO3 hb3
          have O3 := box hO3
          have B3 := box ((B2.out.alloc hBw2 _).trans hb3)
          clear hO3 hb3
          go_wp2
          go_roundw
          case rel => exact ⟨M ++ [u], bs r, b2, rfl, rfl, hrz, HN2.out, HN.out, by rw [HX.out]; exact O3.out, B3.out⟩
          case measure => exact hms.out
theorem grp_head {s : ByteArray} (h : s.data.toList.head? ≠ some 40) : valuesL s.data.toList = none := by
  unfold valuesL; rw [if_pos (.inr (.inl h))]
theorem grp_ext {s : ByteArray} : (s.extract 1 s.size).data.toList = s.data.toList.drop 1 := by
  rw [ByteArray.data_extract, Array.toList_extract, List.extract_eq_take_drop, List.take_of_length_le (by simp)]
theorem grp_tail {s : ByteArray} (h : (s.data.toList.drop 1).getLast? ≠ some 41) : valuesL s.data.toList = none := by
  unfold valuesL
  by_cases h2 : s.data.toList.length < 2
  · rw [if_pos (.inl h2)]
  · refine if_pos (.inr (.inr (fun e => h ?_)))
    rw [List.getLast?_drop, if_neg (by omega)]; exact e
theorem grp_in {s m : ByteArray} (h1 : s.data.toList.head? = some 40) (h2 : (s.data.toList.drop 1).getLast? = some 41) (hm : (s.extract 1 s.size).extract 0 ((s.extract 1 s.size).size - 1) = m) : valuesL s.data.toList = valsL m.data.toList [] := by
  have hl : ¬ s.data.toList.length < 2 := fun e => by rw [List.getLast?_drop, if_pos (by omega)] at h2; cases h2
  have hlast : s.data.toList.getLast? = some 41 := by
    rw [List.getLast?_drop, if_neg (by omega)] at h2; exact h2
  unfold valuesL
  rw [if_neg]
  · rw [← hm, ByteArray.data_extract, Array.toList_extract, List.extract_eq_take_drop, grp_ext, List.drop_zero, List.dropLast_eq_take]
    congr 2
    have : (s.extract 1 s.size).size = s.size - 1 := by simp
    rw [this, List.length_drop]; simp
  · rintro (q | q | q)
    · exact hl q
    · exact q h1
    · exact q hlast
theorem grpParse_any (s : ByteArray) (w : World) (hs : s.size ≤ 65000) :
    Calls Try.prog 33 #[.string s] w fun e w' => valW w w' (valuesL s.data.toList) e := by
  by_cases h1 : s.data.toList.head? = some 40
  · by_cases h2 : (s.data.toList.drop 1).getLast? = some 41
    · obtain ⟨m, hm⟩ : ∃ m, (s.extract 1 s.size).extract 0 ((s.extract 1 s.size).size - 1) = m := ⟨_, rfl⟩
      rw [grp_in h1 h2 hm]
      have hmz : m.size ≤ 65000 := by rw [← hm]; simp; omega
      exact grpLoop_any s m _ w hs hmz (box h1) (box (by rw [grp_ext]; exact h2)) (box hm) (box rfl)
    · have HV : Box (valuesL s.data.toList = none) := box (grp_tail h2)
      obtain ⟨m1, hm1⟩ : ∃ m1, s.extract 1 s.size = m1 := ⟨_, rfl⟩
      have hz1 : m1.size ≤ 65000 := by rw [← hm1]; simp; omega
      have H2 : Box (m1.data.toList.getLast? ≠ some 41) := box (by rw [← hm1, grp_ext]; exact h2)
      have H1 := box h1
      have HM1 := box hm1
      generalize valuesL s.data.toList = T at HV
      clear h1 h2 hm1
      go_enter Try.func33, Try.ntmps33
      go_wp2_with fail
      refine (cutPre40_yes hs H1).mono ?_; rintro e w1 ⟨rfl, rfl⟩
      rw [HM1.out]
      go_wp2_with fail
      refine (cutSuf41_no hz1 H2).mono ?_; rintro e w1 ⟨rfl, rfl⟩
      go_wp2
      go_ret2
      exact valW_none HV (Below.refl _ _)
  · have HV : Box (valuesL s.data.toList = none) := box (grp_head h1)
    have H1 := box h1
    generalize valuesL s.data.toList = T at HV
    clear h1
    by_cases h2 : s.data.toList.getLast? = some 41
    · have H2 := box h2
      obtain ⟨m1, hm1⟩ : ∃ m1, s.extract 0 (s.size - 1) = m1 := ⟨_, rfl⟩
      have HM1 := box hm1
      clear h2 hm1
      go_enter Try.func33, Try.ntmps33
      go_wp2_with fail
      refine (cutPre40_no hs H1).mono ?_; rintro e w1 ⟨rfl, rfl⟩
      go_wp2_with fail
      refine (cutSuf41_yes hs H2).mono ?_; rintro e w1 ⟨rfl, rfl⟩
      rw [HM1.out]
      go_wp2
      go_ret2
      exact valW_none HV (Below.refl _ _)
    · have H2 : Box (s.data.toList.getLast? ≠ some 41) := box h2
      clear h2
      go_enter Try.func33, Try.ntmps33
      go_wp2_with fail
      refine (cutPre40_no hs H1).mono ?_; rintro e w1 ⟨rfl, rfl⟩
      go_wp2_with fail
      refine (cutSuf41_no hs H2).mono ?_; rintro e w1 ⟨rfl, rfl⟩
      go_wp2
      go_ret2
      exact valW_none HV (Below.refl _ _)
/-- the words of the first k values -/
def wtB (V : List ByteArray) (k : Nat) : List ByteArray := (V.take k).map fun x => bs (wordW x.data.toList)
theorem wtB_len {V : List ByteArray} {k : Nat} (h : k ≤ V.length) : (wtB V k).length = k := by unfold wtB; rw [List.length_map, List.length_take, Nat.min_eq_left h]
def GfRel (V : List ByteArray) (W : World) (v i : Value) (wr : World) : Prop :=
  ∃ k : Nat, i = .int .i64 k ∧ k ≤ V.length ∧ OwnS wr W.heap.size v (wtB V k) ∧ Below W.heap.size W wr
theorem join0_any (a : Option Addr) (cap : Nat) (L : List ByteArray) (x : ByteArray) (w : World) (hl : L.length ≤ 65536) (hc : L.length ≤ cap) (hz : Box (∀ x ∈ L, x.size ≤ 65536)) (hF : Box (Ss w a L)) (hx : Box (joinSB L = x)) :
    Calls Try.prog 40 #[.slice a L.length cap, .string ⟨#[32]⟩] w fun e w' => e = .returned (.string x) ∧ Below w.heap.size w w' := by
  by_cases h0 : L.length = 0
  · have hL : L = [] := List.eq_nil_of_length_eq_zero h0
    subst hL
    refine (Jsp0_any a cap w).mono ?_; rintro e w1 ⟨rfl, rfl⟩
    exact ⟨by rw [← hx.out]; rfl, Below.refl _ _⟩
  · obtain ⟨q, off, rfl, c0⟩ := hF.out 0 (by omega)
    by_cases h1 : L.length = 1
    · obtain ⟨y, rfl⟩ := List.length_eq_one_iff.1 h1
      refine (Jsp1_any q off cap y w (by simpa using c0)).mono ?_; rintro e w1 ⟨rfl, rfl⟩
      refine ⟨?_, Below.refl _ _⟩
      have : joinSB [y] = y := by unfold joinSB; simp [joinSp, ← bs_of]
      rw [← hx.out, this]
    · refine (JspN_any q off cap L w (by omega) hl hc hz hF).mono ?_; rintro e w1 ⟨rfl, hb⟩
      exact ⟨by rw [hx.out], hb⟩
theorem join_any (a : Option Addr) (cap n : Nat) (L : List ByteArray) (x : ByteArray) (w : World) (hn : Box (L.length = n)) (hl : n ≤ 65536) (hc : n ≤ cap) (hz : Box (∀ x ∈ L, x.size ≤ 65536)) (hF : Box (Ss w a L)) (hx : Box (joinSB L = x)) :
    Calls Try.prog 40 #[.slice a n cap, .string ⟨#[32]⟩] w fun e w' => e = .returned (.string x) ∧ Below w.heap.size w w' := by
  have h := hn.out
  subst h
  exact join0_any a cap L x w hl hc hz hF hx
set_option maxHeartbeats 4000000 in
theorem grpFormat_any (a : Option Addr) (cap : Nat) (V : List ByteArray) (x : ByteArray) (w : World) (hl : V.length ≤ 20) (hz : Box (∀ v ∈ V, v.size ≤ 1000)) (hF : Box (Ss w a V)) (hx : Box (bs (writL (V.map fun v => v.data.toList)) = x)) :
    Calls Try.prog 24 #[.slice a V.length cap] w fun e w' => e = .returned (.string x) ∧ Below w.heap.size w w' := by
  go_enter Try.func24, Try.ntmps24
  go_wp2
  go_loopw [3, 8] (fun v i wr => GfRel V w v i wr) (fun _ i _ => V.length - (intOf i).toNat)
  case atStart => exact ⟨0, rfl, Nat.zero_le _, OwnS.nil _ _, Below.refl _ _⟩
  case round =>
    obtain ⟨k, rfl, hk, hO, hbel⟩ := hrel
    have O0 := box hO
    have BL := box hbel
    have hBw := hbel.size
    obtain ⟨av, cv, rfl, hss, hcv⟩ := hO.ss
    rw [wtB_len hk] at O0 hcv ⊢
    have SS := box hss
    clear hO hbel hss
    by_cases hlt : k < V.length
    · obtain ⟨g, off, rfl, c0⟩ := (hF.out.below BL.out) k hlt
      have hvz := hz.out V[k] (List.getElem_mem hlt)
      obtain ⟨y, hy⟩ : ∃ y, V[k] = y := ⟨_, rfl⟩
      obtain ⟨z, hzq⟩ : ∃ z, bs (wordW y.data.toList) = z := ⟨_, rfl⟩
      rw [hy] at c0 hvz
      have HZ := box hzq
      have hv6 : y.size ≤ 65000 := by omega
      have HX : Box (wtB V (k + 1) = wtB V k ++ [z]) := box (by
        unfold wtB
        rw [take_next hlt, List.map_append, List.map_cons, List.map_nil, hy, hzq])
      have hk6 : Box ((wtB V k).length ≤ 65536) := box (by rw [wtB_len hk]; omega)
      clear hy hzq
      go_wp2_with fail
      refine (formatVal_any y z _ hv6 HZ).mono ?_; rintro e w1 ⟨rfl, hb1⟩
      have O1 := box (own_below O0.out hb1)
      have B1 := box (BL.out.trans (hb1.mono hBw))
      have hBw1 := B1.out.size
      clear hb1 c0
      go_wp2_with (at_builtin; refine wpList_append_str _ rfl (.tmp 12) (.tmp 15) rfl w.heap.size _ (wtB V k) rfl ?a1 _ _ rfl z ?b1 ?c1 ?d1 ?_)
      case a1 => exact own_below O1.out (below_new _ _)
      case b1 => go_simp
      case c1 => exact hk6.out
      case d1 => simp; omega
      intro v3 w3 hO3 hb3
      have O3 := box hO3
      have B3 := box ((B1.out.alloc hBw1 _).trans hb3)
      clear hO3 hb3
      go_wp2
      go_roundw
      case rel => exact ⟨k + 1, by go_num, by omega, by rw [HX.out]; exact O3.out, B3.out⟩
      case measure => simp [intOf]; omega
    · obtain rfl : k = V.length := by omega
      obtain ⟨L, hL⟩ : ∃ L, wtB V V.length = L := ⟨_, rfl⟩
      have hLl : L.length = V.length := by rw [← hL]; exact wtB_len (Nat.le_refl _)
      have hLz : Box (∀ x ∈ L, x.size ≤ 65536) := box (fun x hx => by
        rw [← hL] at hx
        unfold wtB at hx
        rw [List.take_length] at hx
        obtain ⟨v, hv, rfl⟩ := List.mem_map.1 hx
        have h1 := hz.out v hv
        have h2 := word_len v.data.toList
        rw [bs_size]
        have : v.data.toList.length = v.size := by simp
        omega)
      obtain ⟨y, hy⟩ : ∃ y, joinSB L = y := ⟨_, rfl⟩
      have HY := box hy
      have hyl : y.data.toList = joinW (V.map fun v => v.data.toList) := by
        rw [← hy, ← hL, joinW_sp]
        unfold joinSB wtB
        rw [bs_toList, List.take_length, List.map_map, List.map_map]
        rfl
      have HE : Box ((⟨#[40]⟩ : ByteArray) ++ y ++ (⟨#[41]⟩ : ByteArray) = x) := box (by
        rw [← hx.out]
        unfold writL
        rw [← hyl, bs_of ((⟨#[40]⟩ : ByteArray) ++ y ++ (⟨#[41]⟩ : ByteArray))]
        rfl)
      have hyz : y.size ≤ 41000 := by
        have h1 := writ_len hl hz.out
        unfold writL at h1
        rw [← hyl] at h1
        simp at h1
        omega
      rw [hL] at SS
      have HLL := box hLl
      have hl6 : V.length ≤ 65536 := by omega
      clear hL hy hyl hLl
      clear O0
      go_wp2_with fail
      refine (join_any av cv V.length L y _ HLL hl6 hcv hLz SS HY).mono ?_; rintro e w2 ⟨rfl, hb2⟩
      have B2 := box (BL.out.trans (hb2.mono hBw))
      clear hb2
      go_wp2
      go_ret
      exact ⟨by rw [← HE.out]; rfl, B2.out⟩
end
section
open Go.RowKit
theorem only2 (k : Nat) (w : World) (v0 v1 : Value) : Only k w ((w.setCell ⟨k, 0, none⟩ v0).setCell ⟨k, 1, none⟩ v1) :=
  ((Only.refl k w).setAt 0 v0).setAt 1 v1
theorem grpParse_none {s : ByteArray} {w : World} (hs : s.size ≤ 65000) (h : Box (valuesL s.data.toList = none)) :
    Calls Try.prog 33 #[.string s] w fun e w' => e = .returned (.tuple #[.slice none 0 0, .bool false]) ∧ Below w.heap.size w w' := by
  refine (grpParse_any s w hs).mono ?_
  rintro e w' ⟨v, rfl, hO, hb, hn⟩
  rw [hn h.out, h.out]
  exact ⟨rfl, hb⟩
theorem grpParse_some {s : ByteArray} {X : List (List UInt8)} {w : World} (hs : s.size ≤ 65000) (h : Box (valuesL s.data.toList = some X)) :
    Calls Try.prog 33 #[.string s] w fun e w' => ∃ a c, e = .returned (.tuple #[.slice a X.length c, .bool true]) ∧ OwnS w' w.heap.size (.slice a X.length c) (X.map bs) ∧ Below w.heap.size w w' := by
  refine (grpParse_any s w hs).mono ?_
  rintro e w' ⟨v, rfl, hO, hb, _⟩
  rw [h.out] at hO ⊢
  obtain ⟨a, c, rfl, _, _⟩ := OwnS.ss (L := X.map bs) hO
  rw [List.length_map] at hO ⊢
  exact ⟨a, c, rfl, hO, hb⟩
/-- parseAxis fails -/
theorem parseAx_no {s : ByteArray} {w : World} (hs : s.size ≤ 65000) (h : Box (memV s.data.toList = none)) :
    Calls Try.prog 19 #[.string s] w fun e w' => e = .returned (.tuple #[.agg #[.string ⟨#[]⟩, .slice none 0 0], .bool false]) ∧ Below w.heap.size w w' := by
  obtain ⟨m, hm⟩ : ∃ m, bs (cut1 61 s.data.toList) = m := ⟨_, rfl⟩
  obtain ⟨n, hn⟩ : ∃ n, bs (cut2 61 s.data.toList) = n := ⟨_, rfl⟩
  obtain ⟨b, hb⟩ : ∃ b, cutB 61 s.data.toList = b := ⟨_, rfl⟩
  have HV : Box (cutV 61 s.data.toList = .tuple #[.string m, .string n, .bool b]) := box (by unfold cutV; rw [hm, hn, hb])
  have hm1 : m.data.toList = cut1 61 s.data.toList := by rw [← hm]; rfl
  have hn1 : n.data.toList = cut2 61 s.data.toList := by rw [← hn]; rfl
  have hsl : s.data.toList.length = s.size := by simp
  have hmz : Box (m.size ≤ maxLen) := box (by
    rw [← hm, bs_size]
    have : (cut1 61 s.data.toList).length ≤ s.data.toList.length := by unfold cut1; exact (List.takeWhile_sublist _).length_le
    unfold maxLen; omega)
  have hnz : n.size ≤ 65000 := by
    rw [← hn, bs_size]
    have : (cut2 61 s.data.toList).length ≤ s.data.toList.length := by
      unfold cut2; rw [List.length_drop]; have := (List.dropWhile_sublist (· != (61 : UInt8)) (l := s.data.toList)).length_le; omega
    omega
  have HSM : Box (s.size ≤ maxLen) := box (by unfold maxLen; omega)
  have hcases : valuesL n.data.toList = none ∨ tokL m.data.toList = false := by
    have hh := h.out
    unfold memV at hh
    rw [hm1, hn1]
    by_cases q : cutB 61 s.data.toList = false ∨ tokL (cut1 61 s.data.toList) = false
    · rcases q with q | q
      · left
        have hno : (61 : UInt8) ∉ s.data.toList := by
          intro hc
          have : cutB 61 s.data.toList = true := by unfold cutB; exact List.contains_iff_mem.2 hc
          rw [this] at q; cases q
        have hall : ∀ (l : List UInt8), (61 : UInt8) ∉ l → l.dropWhile (· != (61 : UInt8)) = [] := by
          intro l
          induction l with
          | nil => intro _; rfl
          | cons c r ih =>
            intro hc
            have h1 : c ≠ 61 := fun e => hc (by rw [e]; simp)
            rw [List.dropWhile_cons_of_pos (by simpa using h1)]
            exact ih (fun e => hc (by simp [e]))
        unfold cut2
        rw [hall _ hno]; rfl
      · exact .inr q
    · rw [if_neg q] at hh
      left
      cases hv : valuesL (cut2 61 s.data.toList) with
      | none => rfl
      | some X => rw [hv] at hh; cases hh
  clear hm hn hb hm1 hn1
  have C0 := C2.new (.string ⟨#[]⟩) (.slice none 0 0) w 55
  have B0 := below_new w (.cells #[.string ⟨#[]⟩, .slice none 0 0] 55)
  cases hv : valuesL n.data.toList with
  | none =>
    have HVV := box hv
    clear hcases hv
    go_enter Try.func19, Try.ntmps19
    go_wp2_with fail
    refine (Cut_any s 61 _ HSM.out).mono ?_; rintro e w1 ⟨rfl, hb1⟩; rw [HV.out]
    go_wp2_with fail
    refine (grpParse_none hnz HVV).mono ?_; rintro e w2 ⟨rfl, hb2⟩
    have hb3 := hb1.trans (hb2.mono hb1.size)
    have B3 := box (B0.trans (hb3.mono B0.size))
    obtain ⟨⟨r0, r1⟩, ⟨f0, f1⟩⟩ := C0.next hb3
    clear hb1 hb2 hb3 C0 B0
    go_wp2
    (try simp only [Exit.inBlock, Exit.then])
    refine bodyPost_ret (v := .tuple #[.agg #[.string ⟨#[]⟩, .slice none 0 0], .bool false]) (by rw [results_cell_tmp rfl]; go_simp) rfl ?_
    exact ⟨rfl, below2 B3.out (Nat.le_refl _) _ _⟩
  | some X =>
    have HT : Box (tokL m.data.toList = false) := box (by
      rcases hcases with q | q
      · rw [hv] at q; cases q
      · exact q)
    have HVV := box hv
    clear hcases hv
    go_enter Try.func19, Try.ntmps19
    go_wp2_with fail
    refine (Cut_any s 61 _ HSM.out).mono ?_; rintro e w1 ⟨rfl, hb1⟩; rw [HV.out]
    go_wp2_with fail
    refine (grpParse_some hnz HVV).mono ?_; rintro e w2 ⟨a2, c2, rfl, hO2, hb2⟩
    have hb3 := hb1.trans (hb2.mono hb1.size)
    have B3 := box (B0.trans (hb3.mono B0.size))
    obtain ⟨⟨r0, r1⟩, ⟨f0, f1⟩⟩ := C0.next hb3
    clear hb1 hb2 hb3 C0 B0 hO2
    go_wp2_with fail
    refine (aToken_is hmz.out HT).mono ?_; rintro e w3 ⟨rfl, rfl⟩
    go_wp2
    (try simp only [Exit.inBlock, Exit.then])
    refine bodyPost_ret (v := .tuple #[.agg #[.string ⟨#[]⟩, .slice none 0 0], .bool false]) (by rw [results_cell_tmp rfl]; go_simp) rfl ?_
    exact ⟨rfl, below2 B3.out (Nat.le_refl _) _ _⟩
/-- parseAxis gives an axis -/
theorem parseAx_yes {s nm : ByteArray} {V : List ByteArray} {w : World} (hs : s.size ≤ 65000) (h : Box (memV s.data.toList = some (nm, V))) :
    Calls Try.prog 19 #[.string s] w fun e w' => ∃ a c, e = .returned (.tuple #[.agg #[.string nm, .slice a V.length c], .bool true]) ∧ OwnS w' w.heap.size (.slice a V.length c) V ∧ Below w.heap.size w w' := by
  obtain ⟨m, hm⟩ : ∃ m, bs (cut1 61 s.data.toList) = m := ⟨_, rfl⟩
  obtain ⟨n, hn⟩ : ∃ n, bs (cut2 61 s.data.toList) = n := ⟨_, rfl⟩
  obtain ⟨b, hb⟩ : ∃ b, cutB 61 s.data.toList = b := ⟨_, rfl⟩
  have HV : Box (cutV 61 s.data.toList = .tuple #[.string m, .string n, .bool b]) := box (by unfold cutV; rw [hm, hn, hb])
  have hm1 : m.data.toList = cut1 61 s.data.toList := by rw [← hm]; rfl
  have hn1 : n.data.toList = cut2 61 s.data.toList := by rw [← hn]; rfl
  have hsl : s.data.toList.length = s.size := by simp
  have hmz6 : m.size ≤ 65000 := by
    rw [← hm, bs_size]
    have : (cut1 61 s.data.toList).length ≤ s.data.toList.length := by unfold cut1; exact (List.takeWhile_sublist _).length_le
    omega
  have hmz : Box (m.size ≤ maxLen) := box (by unfold maxLen; omega)
  have hm4 : m.size ≤ 4294967296 := by omega
  have hnz : n.size ≤ 65000 := by
    rw [← hn, bs_size]
    have : (cut2 61 s.data.toList).length ≤ s.data.toList.length := by
      unfold cut2; rw [List.length_drop]; have := (List.dropWhile_sublist (· != (61 : UInt8)) (l := s.data.toList)).length_le; omega
    omega
  have HSM : Box (s.size ≤ maxLen) := box (by unfold maxLen; omega)
  have hh := h.out
  unfold memV at hh
  rw [← hm1, ← hn1] at hh
  split at hh
  · cases hh
  · rename_i q
    obtain ⟨X, hX, hh2⟩ := Option.map_eq_some_iff.1 hh
    obtain ⟨hnm, hVX⟩ := Prod.mk.inj hh2
    have HVV := box hX
    have HT : Box (tokL m.data.toList = true) := box (by
      rcases e : tokL m.data.toList with _ | _
      · exact absurd (.inr e) q
      · rfl)
    have HLW := box hnm
    subst hVX
    clear hm hn hb hm1 hn1 hh hh2 hX hnm q hmz6
    have C0 := C2.new (.string ⟨#[]⟩) (.slice none 0 0) w 55
    have B0 := below_new w (.cells #[.string ⟨#[]⟩, .slice none 0 0] 55)
    rw [List.length_map]
    go_enter Try.func19, Try.ntmps19
    go_wp2_with fail
    refine (Cut_any s 61 _ HSM.out).mono ?_; rintro e w1 ⟨rfl, hb1⟩; rw [HV.out]
    go_wp2_with fail
    refine (grpParse_some hnz HVV).mono ?_; rintro e w2 ⟨a2, c2, rfl, hO2, hb2⟩
    have hb3 := hb1.trans (hb2.mono hb1.size)
    have O2 := box hO2
    have hs1 := hb1.size
    have B3 := box (B0.trans (hb3.mono B0.size))
    have C3 := box (C0.next hb3)
    clear hb1 hb2 hb3 C0 B0 hO2
    go_wp2_with fail
    refine (aToken_is hmz.out HT).mono ?_; rintro e w3 ⟨rfl, rfl⟩
    go_wp2_with fail
    refine (aLower_is hm4 HLW).mono ?_; rintro e w4 ⟨rfl, hb4⟩
    have B4 := box (B3.out.trans (hb4.mono B3.out.size))
    have O4 := box (own_below O2.out hb4)
    obtain ⟨⟨r0, r1⟩, ⟨f0, f1⟩⟩ := C3.out.next hb4
    clear hb4
    go_wp2
    (try simp only [Exit.inBlock, Exit.then])
    refine bodyPost_ret (v := .tuple #[.agg #[.string nm, .slice a2 X.length c2], .bool true]) (by rw [results_cell_tmp rfl]; go_simp) rfl ?_
    have hlt : w.heap.size < w1.heap.size := by
      have e : (w.alloc (.cells #[.string ⟨#[]⟩, .slice none 0 0] 55)).heap.size = w.heap.size + 1 := by simp
      omega
    exact ⟨a2, c2, rfl, own_le (own_only O4.out (only2 _ _ _ _) hlt) (Nat.le_of_lt hlt), below2 B4.out (Nat.le_refl _) _ _⟩
theorem vHas_is {a : Option Addr} {cap : Nat} {L : List F} {b : Bool} {w : World} (S : Box (Sm L)) (hF : Box (Fs w a L)) (h : Box (L.any (nmd nmVar) = b)) :
    Calls Try.prog 17 #[.slice a L.length cap, .string ⟨#[86, 97, 114, 105, 97, 110, 116, 115]⟩] w fun e w' => e = .returned (.bool b) ∧ Below w.heap.size w w' :=
  (Has_any a cap L nmVar w S.out.1 S (box (by decide)) hF).mono fun e w' ⟨h1, h2⟩ => ⟨by rw [h1, h.out], h2⟩
theorem vAll_is {a : Option Addr} {cap : Nat} {L : List F} {w : World} (S : Box (Sm L)) (hv : Box (∀ x ∈ getL nmVar L, x.size ≤ 65000)) (hF : Box (Fs w a L)) :
    Calls Try.prog 18 #[.slice a L.length cap, .string ⟨#[86, 97, 114, 105, 97, 110, 116, 115]⟩] w fun e w' => ∃ v, e = .returned v ∧ OwnS w' w.heap.size v (allB nmVar L) ∧ Below w.heap.size w w' :=
  mAll_any a cap L nmVar w S hv (box (by decide)) hF
theorem vValid_is {v : Value} {B : Nat} {L : List AX} {q : Bool} {w : World} (hO : OwnAx w B v L) (hl : L.length ≤ 65536) (hz : Box (smallA L)) (h : Box (validX L = q)) :
    Calls Try.prog 20 #[v] w fun e w' => e = .returned (.bool q) ∧ Below w.heap.size w w' := by
  obtain ⟨a, c, rfl, hA, _⟩ := hO.axs
  exact (mValid_any a c L w hl hz (box hA)).mono fun e w' ⟨h1, h2⟩ => ⟨by rw [h1, h.out], h2⟩
set_option maxHeartbeats 4000000 in
theorem mParseV_any (a : Option Addr) (cap : Nat) (L : List F) (w : World) (S : Box (Sm L)) (hv : Box (∀ x ∈ getL nmVar L, x.size ≤ 65000)) (hF : Box (Fs w a L)) :
    Calls Try.prog 12 #[.slice a L.length cap] w fun e w' => varW w w' L e := by
  have hl := S.out.1
  cases hh : L.any (nmd nmVar) with
  | false =>
    have HH := box hh
    have HN := box (vars_none hh)
    clear hh
    go_enter Try.func12, Try.ntmps12
    go_wp2_with fail
    refine (vHas_is S hF HH).mono ?_; rintro e w1 ⟨rfl, hb1⟩
    have B1 := box hb1
    clear hb1
    go_wp2
    go_ret2
    exact varW_no HN B1.out
  | true =>
    have HH := box hh
    obtain ⟨M, hMM⟩ : ∃ M, allL nmVar L = M := ⟨_, rfl⟩
    have HMB : Box (allB nmVar L = M.map bs) := box (by unfold allB; rw [hMM])
    have HMz : Box (∀ m ∈ M, m.length ≤ 65000) := box (fun m hm => by
      rw [← hMM] at hm
      obtain ⟨x, hx, hle⟩ := all_mem hm
      have := hv.out x hx; omega)
    have hMl : M.length ≤ 64 := by rw [← hMM]; unfold allL; rw [List.length_take]; omega
    obtain ⟨T, hT⟩ : ∃ T, memsV M [] = T := ⟨_, rfl⟩
    have HT : Box (memsV (allL nmVar L) [] = T) := box (by rw [hMM, hT])
    have HT0 := box hT
    clear hh hMM hT
    go_enter Try.func12, Try.ntmps12
    go_wp2_with fail
    refine (vHas_is S hF HH).mono ?_; rintro e w1 ⟨rfl, hb1⟩
    have B1 := box hb1
    have F1 := box (hF.out.below hb1)
    have hs1 := hb1.size
    clear hb1
    go_wp2_with fail
    refine (vAll_is S hv F1).mono ?_; rintro e w2 ⟨v2, rfl, hO2, hb2⟩
    rw [HMB.out] at hO2
    obtain ⟨a2, cap2, rfl, hS2, hc2⟩ := hO2.ss
    rw [List.length_map] at hc2 ⊢
    have S2 := box hS2
    have B2 := box (B1.out.trans (hb2.mono hs1))
    have hs2 := B2.out.size
    clear hO2 hS2 hb2
    go_wp2
    go_loopw [4, 15] (fun v i wr => PvRel M T w2 w2.heap.size v i wr) (fun _ i _ => M.length - (intOf i).toNat)
    case atStart => exact ⟨0, [], rfl, Nat.zero_le _, Nat.le_refl _, by rw [List.drop_zero]; exact HT0.out.symm, box (fun i hi => absurd hi (by simp)), OwnAx.nil _ _, Below.refl _ _⟩
    case round =>
      obtain ⟨j, acc, rfl, hj, haj, hTj, SA, hO, hbel⟩ := hrel
      have O0 := box hO
      have BL := box hbel
      have HTj := box hTj
      have hBw := hbel.size
      obtain ⟨av, cv, rfl, _, _⟩ := hO.axs
      clear hO hbel hTj
      by_cases hlt : j < M.length
      · have hji : (j : Int) < (M.length : Int) := by omega
        have hmem := List.getElem_mem hlt
        obtain ⟨q', off', e, c1⟩ := (S2.out.below BL.out) j (by rw [List.length_map]; exact hlt)
        rw [List.getElem_map] at c1
        cases e
        have hdr : M.drop j = M[j] :: M.drop (j + 1) := List.drop_eq_getElem_cons hlt
        have hmz := HMz.out M[j] hmem
        obtain ⟨x, hx⟩ : ∃ x, bs M[j] = x := ⟨_, rfl⟩
        have hxd : x.data.toList = M[j] := by rw [← hx]; rfl
        rw [hx] at c1
        have hlx : x.data.toList.length = x.size := by simp
        have hxz : x.size ≤ 65000 := by rw [← hlx, hxd]; exact hmz
        have HNone : Box (memV x.data.toList = none → T = none) := box (fun h => by rw [HTj.out, hdr]; exact memsV_bad (by rw [← hxd]; exact h))
        have HSome : Box (∀ f, memV x.data.toList = some f → T = memsV (M.drop (j + 1)) (acc ++ [f])) := box (fun f h => by rw [HTj.out, hdr]; exact memsV_more (by rw [← hxd]; exact h))
        clear hx hdr hmem hmz hxd
        have hBad : T = none → Box (varsE L = 1 ∧ varsX L = []) := fun h => box (vars_bad HH.out (by rw [HT.out, h]))
        have HBad := box hBad
        clear hBad hlx
        cases hmv : memV x.data.toList with
        | none =>
          have HB := HBad.out (HNone.out hmv)
          have HMV := box hmv
          clear hmv
          go_wp2_with fail
          refine (parseAx_no hxz HMV).mono ?_; rintro e w3 ⟨rfl, hb3⟩
          have B3 := box (BL.out.trans (hb3.mono hBw))
          clear hb3
          go_wp2
          go_ret2
          exact varW_no HB (B2.out.trans ((B3.out.alloc B3.out.size _).mono hs2))
        | some f =>
          obtain ⟨nm, V⟩ := f
          have HN := box (HSome.out _ hmv)
          have HMV := box hmv
          have SA2 : Box (smallA (acc ++ [(nm, V)])) := box (small_more SA.out (memV_size hmv) (by rw [show x.data.toList.length = x.size from by simp]; exact hxz))
          clear hmv
          go_wp2_with fail
          refine (parseAx_yes hxz HMV).mono ?_; rintro e w4 ⟨a4, c4, rfl, hO4, hb4⟩
          have O4 := box (O0.out.next hb4)
          have V4 := box (show OwnS w4 w2.heap.size _ V from Go.Joins.ownsRow_le hO4 hBw)
          have B4 := box (BL.out.trans (hb4.mono hBw))
          have hC := C2.new (.string nm) (.slice a4 V.length c4) w4 55
          obtain ⟨⟨r0, r1⟩, _⟩ := hC
          clear hO4 hb4 c1
          go_wp2_with (at_builtin; refine wpList_append_axis _ rfl (.tmp 26) (.tmp 28) rfl w2.heap.size _ acc rfl ?a1 _ _ rfl nm (.slice a4 V.length c4) V ?b1 ?b2 ?u1 ?c1 ?d1 ?_)
          case a1 => exact (O4.out.next (below_new _ _)).next (below_new _ _)
          case b1 => go_simp
          case b2 => go_simp
          case u1 => exact own_below (own_below V4.out (below_new _ _)) (below_new _ _)
          case c1 => omega
          case d1 => have := B4.out.size; simp; omega
          intro v6 w6 hO6 hb6
          have O6 := box hO6
          have B6 := box (((B4.out.alloc B4.out.size _).alloc (by have := B4.out.size; simp; omega) _).trans hb6)
          clear hO6 hb6
          go_wp2
          go_roundw
          case rel => exact ⟨j + 1, acc ++ [(nm, V)], by go_num, by omega, by rw [List.length_append]; simp only [List.length_cons, List.length_nil]; omega, HN.out, SA2, O6.out, B6.out⟩
          case measure => simp [intOf]; omega
      · have hji : ¬ (j : Int) < (M.length : Int) := by omega
        have HTA : Box (T = some acc) := box (by rw [HTj.out, List.drop_of_length_le (by omega)]; rfl)
        have hacc : acc.length ≤ 65536 := by omega
        rcases hvx : validX acc with _ | _
        · have HQ := box hvx
          have HB := box (vars_lim HH.out (HT.out.trans HTA.out) hvx)
          clear hvx
          go_wp2_with fail
          refine (vValid_is O0.out hacc SA HQ).mono ?_; rintro e w3 ⟨rfl, hb3⟩
          have B3 := box (BL.out.trans (hb3.mono hBw))
          clear hb3
          go_wp2
          go_ret2
          exact varW_no HB (B2.out.trans (B3.out.mono hs2))
        · have HQ := box hvx
          have HB := box (vars_ok HH.out (HT.out.trans HTA.out) hvx)
          clear hvx
          go_wp2_with fail
          refine (vValid_is O0.out hacc SA HQ).mono ?_; rintro e w3 ⟨rfl, hb3⟩
          have O3 := box (O0.out.next hb3)
          have B3 := box (BL.out.trans (hb3.mono hBw))
          clear hb3
          go_wp2
          go_ret2
          exact ⟨_, by rw [HB.out.1]; rfl, by rw [HB.out.2]; exact O3.out.le hs2, B2.out.trans (B3.out.mono hs2)⟩
end
section
open Go.RowKit
def fitX (L : List AX) : Prop := ∀ i (hi : i < L.length), fitA L[i]
theorem fitX.small {L : List AX} (h : fitX L) : smallA L := fun i hi => by
  obtain ⟨h1, h2, h3⟩ := h i hi
  exact ⟨by omega, by omega, fun j hj => by have := h3 _ (List.getElem_mem hj); omega⟩
end
section
open Go.RowKit
theorem sJoin_any (a : Option Addr) (cap : Nat) (L : List ByteArray) (w : World) (hl : L.length ≤ 65536) (hc : L.length ≤ cap) (hz : Box (∀ x ∈ L, x.size ≤ 65536)) (hF : Box (Ss w a L)) :
    Calls Try.prog 40 #[.slice a L.length cap, .string ⟨#[44, 32]⟩] w fun e w' => e = .returned (.string (joinB L)) ∧ Below w.heap.size w w' := by
  match L, hl, hc, hz, hF with
  | [], _, _, _, _ => exact (Join0_any a cap w).mono fun e w' ⟨h1, h2⟩ => ⟨h1, h2 ▸ Below.refl _ _⟩
  | [x], _, _, _, hF =>
    obtain ⟨q, off, rfl, c0⟩ := hF.out 0 (Nat.zero_lt_succ 0)
    exact (Join1_any q off cap x w c0).mono fun e w' ⟨h1, h2⟩ => ⟨h1, h2 ▸ Below.refl _ _⟩
  | x :: y :: r, hl, hc, hz, hF =>
    obtain ⟨q, off, rfl, c0⟩ := hF.out 0 (Nat.zero_lt_succ _)
    exact JoinN_any q off cap (x :: y :: r) w (Nat.le_add_left 2 r.length) hl hc hz hF
theorem mJoin_any (a : Option Addr) (cap : Nat) (L : List ByteArray) (w : World) (hl : L.length ≤ 65536) (hc : L.length ≤ cap) (hz : Box (∀ x ∈ L, x.size ≤ 65536)) (hF : Box (Ss w a L)) :
    Calls Try.prog 25 #[.slice a L.length cap] w fun e w' => e = .returned (.string (joinB L)) ∧ Below w.heap.size w w' := by
  go_enter Try.func25, Try.ntmps25
  go_wp2_with fail
  refine (sJoin_any a cap L _ hl hc hz hF).mono ?_; rintro e w1 ⟨rfl, hb⟩
  have B := box hb
  clear hb
  go_wp2
  go_ret
  exact ⟨rfl, B.out⟩
end
end Go.Proofs.Ytodbmdekgfcjpaa.Asc
