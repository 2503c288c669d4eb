/- Merged texts: VarMem2 VarRef7 VarRef8 GrpMine. -/
import Derived.Test.YtodbmdekgfcjpaaGreatM06
import Derived.Test.YtodbmdekgfcjpaaGreatM07
import Derived.Test.YtodbmdekgfcjpaaGreatM08
import Derived.Test.YtodbmdekgfcjpaaGreatM09
import Derived.Test.YtodbmdekgfcjpaaGreatM10
import Derived.Test.YtodbmdekgfcjpaaGreatM12
import Derived.Test.YtodbmdekgfcjpaaGreatM14
import Derived.Test.YtodbmdekgfcjpaaGreatM15
import Derived.Deep.AppendLies
set_option linter.unusedVariables false
set_option linter.unusedSimpArgs false
set_option maxRecDepth 100000
namespace Go.Proofs.YtodbmdekgfcjpaaGreat.Asc
section
open Go.RowKit
theorem heap_lt {w : World} {b : Nat} {o : Obj} (h : w.heap[b]? = some o) : b < w.heap.size := by
  rcases Nat.lt_or_ge b w.heap.size with q | q
  · exact q
  · rw [Array.getElem?_eq_none q] at h; cases h
theorem info_axis : (Tryz.prog.info? 54).map (fun i => (i.zero, i.size, i.bytes)) = some (some (.agg #[.string ⟨#[]⟩, .slice none 0 0]), 2, 40) := by kernel_rfl
/-- the cells of the axes L, the values' lists owned, too -/
def CellsA (w : World) (B : Nat) (cs : List Value) (L : List AX) : Prop :=
  cs.length = 2 * L.length ∧ (∀ u ∈ cs, u.oneCell' = true) ∧ ∀ i (h : i < L.length), cs[i * 2]? = some (.string L[i].1) ∧ ∃ u, cs[i * 2 + 1]? = some u ∧ OwnS w B u L[i].2
def OwnAx (w : World) (B : Nat) (v : Value) (L : List AX) : Prop := ∃ cs, w.ownsRow B 54 2 v L.length cs ∧ CellsA w B cs L
theorem OwnS.ssv {w : World} {B : Nat} {v : Value} {V : List ByteArray} (h : OwnS w B v V) : SsV w v V := by
  obtain ⟨a, c, e, hs, hc⟩ := h.ss
  exact ⟨a, c, e, hs, hc⟩
theorem OwnAx.nil (w : World) (B : Nat) : OwnAx w B (.slice none 0 0) [] := ⟨[], World.ownsRow_nil _ _ _ _, rfl, by simp, fun i h => absurd h (by simp)⟩
theorem CellsA.next {w w' : World} {B : Nat} {cs : List Value} {L : List AX} (h : CellsA w B cs L) (hb : Below w.heap.size w w') : CellsA w' B cs L :=
  ⟨h.1, h.2.1, fun i hi => by obtain ⟨h1, u, h2, h3⟩ := h.2.2 i hi; exact ⟨h1, u, h2, own_below h3 hb⟩⟩
theorem OwnAx.next {w w' : World} {B : Nat} {v : Value} {L : List AX} (h : OwnAx w B v L) (hb : Below w.heap.size w w') : OwnAx w' B v L := by
  obtain ⟨cs, h1, h2⟩ := h
  exact ⟨cs, own_below h1 hb, h2.next hb⟩
theorem OwnAx.axs {w : World} {B : Nat} {v : Value} {L : List AX} (h : OwnAx w B v L) : ∃ a cap, v = .slice a L.length cap ∧ Axs w a L ∧ L.length ≤ cap := by
  obtain ⟨cs, h, hC⟩ := h
  rcases h.2 with ⟨rfl, hn⟩ | ⟨g, cap, cur, rfl, hB, hg, hc, hm, hs, ht⟩
  · exact ⟨none, 0, by rw [hn], fun i hi => by omega, by omega⟩
  · refine ⟨_, cap, rfl, fun i hi => ?_, hc⟩
    obtain ⟨q0, u, q1, q2⟩ := hC.2.2 i hi
    have hl := hC.1
    rw [← ht] at q0 q1
    rw [List.getElem?_take] at q0 q1
    rw [if_pos (by omega)] at q0 q1
    refine ⟨g, 0, u, rfl, ?_, ?_, q2.ssv⟩
    · simp only [World.cell?, hg]; simpa using q0
    · simp only [World.cell?, hg]; simpa [Nat.add_assoc] using q1
theorem own_grown {w w' : World} {B n : Nat} {v u : Value} {cs : List Value} {V : List ByteArray} (hv : w.ownsRow B 54 2 v n cs) (hu : OwnS w B u V) (hg : w.grownBy w' v.ownBlock) : OwnS w' B u V := by
  refine ⟨hu.1, ?_⟩
  rcases hu.2 with q | ⟨g, cap, cur, hv2, hB, hgg, r⟩
  · exact .inl q
  · refine .inr ⟨g, cap, cur, hv2, hB, ?_, r⟩
    rw [hg.block g (heap_lt hgg) (fun e => ?_)]
    · exact hgg
    · rcases hv.2 with ⟨rfl, _⟩ | ⟨g2, cap2, cur2, rfl, _, hg2, _⟩
      · simp [Value.ownBlock] at e
      · simp [Value.ownBlock] at e
        subst e
        rw [hgg] at hg2
        simp at hg2
theorem CellsA.grown {w w' : World} {B n : Nat} {v : Value} {xs cs : List Value} {L : List AX} (h : CellsA w B cs L) (hv : w.ownsRow B 54 2 v n xs) (hg : w.grownBy w' v.ownBlock) : CellsA w' B cs L :=
  ⟨h.1, h.2.1, fun i hi => by obtain ⟨h1, u, h2, h3⟩ := h.2.2 i hi; exact ⟨h1, u, h2, own_grown hv h3 hg⟩⟩
theorem CellsA.more {w : World} {B : Nat} {cs : List Value} {L : List AX} {n : ByteArray} {u : Value} {V : List ByteArray} (h : CellsA w B cs L) (hu : OwnS w B u V) : CellsA w B (cs ++ [.string n, u]) (L ++ [(n, V)]) := by
  have hone : u.oneCell' = true := by obtain ⟨a, c, e, _⟩ := hu.ss; rw [e]; rfl
  refine ⟨by rw [List.length_append, List.length_append, h.1]; simp; omega, fun x hx => ?_, fun i hi => ?_⟩
  · rcases List.mem_append.1 hx with q | q
    · exact h.2.1 x q
    · simp at q
      rcases q with rfl | rfl
      · rfl
      · exact hone
  · by_cases e : i < L.length
    · obtain ⟨h1, y, h2, h3⟩ := h.2.2 i e
      have hl := h.1
      rw [List.getElem_append_left e, List.getElem?_append_left (by omega), List.getElem?_append_left (by omega)]
      exact ⟨h1, y, h2, h3⟩
    · have hie : i = L.length := by rw [List.length_append] at hi; simp at hi; omega
      subst hie
      have hl := h.1
      rw [List.getElem_append_right (Nat.le_refl _), List.getElem?_append_right (by omega), List.getElem?_append_right (by omega)]
      rw [show L.length * 2 - cs.length = 0 from by omega, show L.length * 2 + 1 - cs.length = 1 from by omega]
      simp only [Nat.sub_self]
      exact ⟨rfl, u, rfl, hu⟩
/-- append of one axis that lies in a block of its own -/
theorem wpList_append_axis (w : World) {ops : Array Oper} {rest : List Oper} {o : Oper} {a : Act} {Q : Exit → Act → World → Prop} (hgd : o.guard = none) (s x : Operand)
    (ho : o.op = .call { callee := .builtin .append, args := #[s, x], argTypes := #[25, 25] })
    (B : Nat) (v : Value) (L : List AX) (hs : a.eval s = v) (hown : OwnAx w B v L)
    (g : Nat) (c : Nat) (hx : a.eval x = .slice (some ⟨g, 0, none⟩) 1 c) (n : ByteArray) (u : Value) (V : List ByteArray) (h0 : w.cell? ⟨g, 0, none⟩ = some (.string n)) (h1 : w.cell? ⟨g, 1, none⟩ = some u) (hu : OwnS w B u V) (hl : L.length ≤ 65536) (hB : B ≤ w.heap.size)
    (h : ∀ v' w', OwnAx w' B v' (L ++ [(n, V)]) → Below B w w' → wpList Tryz.prog ops Q rest (a.put o.dst v') w') : wpList Tryz.prog ops Q (o :: rest) a w := by
  obtain ⟨i0, hi0, hz0, hz1, hz2⟩ := info_parts info_axis
  obtain ⟨cs, hown, hC⟩ := hown
  have hone : u.oneCell' = true := by obtain ⟨b, c, e, _⟩ := hu.ss; rw [e]; rfl
  refine wpList_append_own (P := Tryz.prog) w hgd s x 25 ho B 54 i0 _ 2 40 Tryz.underlying25 hi0 hz0 hz1 hz2 rfl (by decide) v L.length cs hs hown ⟨g, 0, none⟩ 1 c [.string n, u] hx rfl ?_ ?_ (by unfold maxLen; omega) (by omega) hB ?_
  · intro j y hj
    match j, hj with
    | 0, hj => simp at hj; subst hj; simpa [Addr.add] using h0
    | 1, hj => simp at hj; subst hj; simpa [Addr.add] using h1
  · intro y hy; simp at hy; rcases hy with rfl | rfl
    · rfl
    · exact hone
  · intro v' w' q1 q2 _
    refine h v' w' ⟨cs ++ [.string n, u], by rw [List.length_append]; exact q1, ?_⟩ ((Below.refl _ _).grown q2 hB (fun k hk => own_block hown k hk))
    exact (hC.grown hown q2).more (own_grown hown hu q2)
end
section
open Go.RowKit
theorem rHas15_is {a : Option Addr} {cap : Nat} {L : List F} {nm : ByteArray} {b : Bool} {w : World} (S : Box (Sm L)) (M : Box (nm.size ≤ 65536)) (hF : Box (Fs w a L)) (h : Box (L.any (nmd nm) = b)) :
    Calls Tryz.prog 45 #[.slice a L.length cap, .string nm] w fun e w' => e = .returned (.bool b) ∧ Below w.heap.size w w' :=
  (rHas_any a cap L nm w S.out.1 S M hF).mono fun e w' ⟨h1, h2⟩ => ⟨by rw [h1, h.out], h2⟩
theorem rValues_none {s : ByteArray} {w : World} (hs : s.size ≤ 65000) (h : Box (valuesL s.data.toList = none)) :
    Calls Tryz.prog 48 #[.string s] w fun e w' => e = .returned (.tuple #[.slice none 0 0, .bool false]) ∧ Below w.heap.size w w' := by
  refine (rValues_any s w hs).mono ?_
  rintro e w' ⟨v, rfl, hO, hb, hn⟩
  rw [hn h.out, h.out]
  exact ⟨rfl, hb⟩
theorem rValues_some {s : ByteArray} {X : List (List UInt8)} {w : World} (hs : s.size ≤ 65000) (h : Box (valuesL s.data.toList = some X)) :
    Calls Tryz.prog 48 #[.string s] w fun e w' => ∃ v, e = .returned (.tuple #[v, .bool true]) ∧ OwnS w' w.heap.size v (X.map bs) ∧ Below w.heap.size w w' := by
  refine (rValues_any s w hs).mono ?_
  rintro e w' ⟨v, rfl, hO, hb, _⟩
  rw [h.out] at hO ⊢
  exact ⟨v, rfl, hO, hb⟩
theorem rValidX_is {v : Value} {B : Nat} {L : List AX} {q : Bool} {w : World} (hO : OwnAx w B v L) (hl : L.length ≤ 65536) (hz : Box (smallA L)) (h : Box (validX L = q)) :
    Calls Tryz.prog 15 #[v] w fun e w' => e = .returned (.bool q) ∧ Below w.heap.size w w' := by
  obtain ⟨a, c, rfl, hA, _⟩ := hO.axs
  exact (rValid_any a c L w hl hz (box hA)).mono fun e w' ⟨h1, h2⟩ => ⟨by rw [h1, h.out], h2⟩
/-- one member, by the place of its '=' -/
theorem memV_no {x : List UInt8} (h : Lib.indexByte x 61 = -1) : memV x = none := by unfold memV; rw [if_pos (.inl (cut_no h).2.2)]
theorem memV_name {x : List UInt8} {o : Nat} (h : Lib.indexByte x 61 = (o : Int)) (ht : tokL (x.take o) = false) : memV x = none := by
  obtain ⟨_, h1, _, _⟩ := cut_at h
  unfold memV; rw [h1, if_pos (.inr ht)]
theorem memV_val {x : List UInt8} {o : Nat} (h : Lib.indexByte x 61 = (o : Int)) (ht : tokL (x.take o) = true) : memV x = (valuesL (x.drop (o + 1))).map fun vs => (bs (lowL (x.take o)), vs.map bs) := by
  obtain ⟨_, h1, h2, h3⟩ := cut_at h
  unfold memV; rw [h1, h2, h3, if_neg (by rw [ht]; simp)]
def varW (w w' : World) (L : List F) (e : Ending) : Prop := ∃ v, e = .returned (.tuple #[v, .int .i64 (varsE L)]) ∧ OwnAx w' w.heap.size v (varsX L) ∧ Below w.heap.size w w'
theorem varW_no {w w' : World} {L : List F} {k : Int} (h : Box (varsE L = k ∧ varsX L = [])) (hb : Below w.heap.size w w') : varW w w' L (.returned (.tuple #[.slice none 0 0, .int .i64 k])) := by
  obtain ⟨h1, h2⟩ := h.out
  exact ⟨_, by rw [h1], by rw [h2]; exact OwnAx.nil _ _, hb⟩
def PvRel (M : List (List UInt8)) (T : Option (List AX)) (W : World) (B : Nat) (v i : Value) (wr : World) : Prop :=
  ∃ (j : Nat) (acc : List AX), i = .int .i64 j ∧ j ≤ M.length ∧ acc.length ≤ j ∧ T = memsV (M.drop j) acc ∧ Box (smallA acc) ∧ OwnAx wr B v acc ∧ Below W.heap.size W wr
theorem small_more {L : List AX} {x : AX} {n : Nat} (h : smallA L) (hx : szA x n) (hn : n ≤ 65000) : smallA (L ++ [x]) := fun i hi => by
  by_cases e : i < L.length
  · rw [List.getElem_append_left e]; exact h i e
  · have hie : i = L.length := by rw [List.length_append] at hi; simp at hi; omega
    subst hie
    rw [List.getElem_append_right (Nat.le_refl _)]
    simp only [Nat.sub_self, List.getElem_cons_zero]
    exact ⟨by have := hx.1; omega, by have := hx.2.1; omega, fun j hj => by have := hx.2.2 x.2[j] (List.getElem_mem hj); omega⟩
theorem OwnAx.le {w : World} {B B' : Nat} {v : Value} {L : List AX} (h : OwnAx w B v L) (hB : B' ≤ B) : OwnAx w B' v L := by
  obtain ⟨cs, h1, h2⟩ := h
  exact ⟨cs, Go.Joins.ownsRow_le h1 hB, h2.1, h2.2.1, fun i hi => by obtain ⟨q1, u, q2, q3⟩ := h2.2.2 i hi; exact ⟨q1, u, q2, Go.Joins.ownsRow_le q3 hB⟩⟩
set_option maxHeartbeats 8000000 in
theorem rParseV_any (a : Option Addr) (cap : Nat) (L : List F) (w : World) (S : Box (Sm L)) (hv : Box (∀ x ∈ getL nmVar L, x.size ≤ 65000)) (hF : Box (Fs w a L)) :
    Calls Tryz.prog 20 #[.slice a L.length cap] w fun e w' => varW w w' L e := by
  have hl := S.out.1
  have hM : Box (nmVar.size ≤ 65536) := box (by decide)
  cases hh : L.any (nmd nmVar) with
  | false =>
    have HH := box hh
    have HN := box (vars_none hh)
    clear hh
    go_enter Tryz.func20, Tryz.ntmps20
    go_wp2_with fail
    refine (rHas15_is S hM hF HH).mono ?_; rintro e w1 ⟨rfl, hb1⟩
    have B1 := box hb1
    clear hb1
    go_wp2
    go_ret2
    exact varW_no HN B1.out
  | true =>
    have HH := box hh
    obtain ⟨M, hMM⟩ : ∃ M, allL nmVar L = M := ⟨_, rfl⟩
    have HMB : Box (allB nmVar L = M.map bs) := box (by unfold allB; rw [hMM])
    have HMz : Box (∀ m ∈ M, m.length ≤ 65000) := box (fun m hm => by
      rw [← hMM] at hm
      obtain ⟨x, hx, hle⟩ := all_mem hm
      have := hv.out x hx; omega)
    have hMl : M.length ≤ 64 := by rw [← hMM]; unfold allL; rw [List.length_take]; omega
    obtain ⟨T, hT⟩ : ∃ T, memsV M [] = T := ⟨_, rfl⟩
    have HT : Box (memsV (allL nmVar L) [] = T) := box (by rw [hMM, hT])
    have HT0 := box hT
    clear hh hMM hT
    go_enter Tryz.func20, Tryz.ntmps20
    go_wp2_with fail
    refine (rHas15_is S hM hF HH).mono ?_; rintro e w1 ⟨rfl, hb1⟩
    have B1 := box hb1
    have F1 := box (hF.out.below hb1)
    have hs1 := hb1.size
    clear hb1
    go_wp2_with fail
    refine (rAll_any a cap L nmVar _ S hv hM F1).mono ?_; rintro e w2 ⟨v2, rfl, hO2, hb2⟩
    rw [HMB.out] at hO2
    obtain ⟨a2, cap2, rfl, hS2, hc2⟩ := hO2.ss
    rw [List.length_map] at hc2 ⊢
    have S2 := box hS2
    have B2 := box (B1.out.trans (hb2.mono hs1))
    have hs2 := B2.out.size
    clear hO2 hS2 hb2
    go_wp2
    go_loopw [5, 6] (fun v i wr => PvRel M T w2 w2.heap.size v i wr) (fun _ i _ => M.length - (intOf i).toNat)
    case atStart => exact ⟨0, [], rfl, Nat.zero_le _, Nat.le_refl _, by rw [List.drop_zero]; exact HT0.out.symm, box (fun i hi => absurd hi (by simp)), OwnAx.nil _ _, Below.refl _ _⟩
    case round =>
      obtain ⟨j, acc, rfl, hj, haj, hTj, SA, hO, hbel⟩ := hrel
      have O0 := box hO
      have BL := box hbel
      have HTj := box hTj
      have hBw := hbel.size
      obtain ⟨av, cv, rfl, _, _⟩ := hO.axs
      clear hO hbel hTj
      by_cases hlt : j < M.length
      · have hji : (j : Int) < (M.length : Int) := by omega
        have hmem := List.getElem_mem hlt
        obtain ⟨q', off', e, c1⟩ := (S2.out.below BL.out) j (by rw [List.length_map]; exact hlt)
        rw [List.getElem_map] at c1
        cases e
        have hdr : M.drop j = M[j] :: M.drop (j + 1) := List.drop_eq_getElem_cons hlt
        have hmz := HMz.out M[j] hmem
        obtain ⟨x, hx⟩ : ∃ x, bs M[j] = x := ⟨_, rfl⟩
        have hxd : x.data.toList = M[j] := by rw [← hx]; rfl
        rw [hx] at c1
        have hlx : x.data.toList.length = x.size := by simp
        have hxz : x.size ≤ 65000 := by rw [← hlx, hxd]; exact hmz
        have hxm : x.size ≤ maxLen := by unfold maxLen; omega
        have HNone : Box (memV x.data.toList = none → T = none) := box (fun h => by rw [HTj.out, hdr]; exact memsV_bad (by rw [← hxd]; exact h))
        have HSome : Box (∀ f, memV x.data.toList = some f → T = memsV (M.drop (j + 1)) (acc ++ [f])) := box (fun f h => by rw [HTj.out, hdr]; exact memsV_more (by rw [← hxd]; exact h))
        clear hx hdr hmem hmz hxd
        have hBad : T = none → Box (varsE L = 1 ∧ varsX L = []) := fun h => box (vars_bad HH.out (by rw [HT.out, h]))
        have HBad := box hBad
        clear hBad
        rcases idx_cases x.data.toList 61 with hi | ⟨o, hi, ho⟩
        · have HI := box (idx_none hi)
          have HB := HBad.out (HNone.out (memV_no hi))
          clear hi hlx
          go_wp2_with fail
          refine (rIndex61_is hxm HI).mono ?_; rintro e w3 ⟨rfl, rfl⟩
          go_wp2
          go_ret2
          exact varW_no HB (B2.out.trans (BL.out.mono hs2))
        · rw [hlx] at ho
          have HI := box (idx_some hi)
          have io0 : (0 : Int) ≤ (o : Int) := by omega
          have io1 : (o : Int) ≤ (x.size : Int) := by omega
          have io2 : (o : Int) + 1 ≤ (x.size : Int) := by omega
          have hoz : (x.extract 0 o).size ≤ maxLen := by rw [ByteArray.size_extract]; unfold maxLen; omega
          have hoz4 : (x.extract 0 o).size ≤ 4294967296 := by rw [ByteArray.size_extract]; omega
          have hvz : (x.extract (o + 1) x.size).size ≤ 65000 := by rw [ByteArray.size_extract]; omega
          have e1 := ext_take x o
          have e2 := ext_drop x (o + 1)
          obtain ⟨n0, hn0⟩ : ∃ n, x.extract 0 o = n := ⟨_, rfl⟩
          obtain ⟨r0, hr0⟩ : ∃ n, x.extract (o + 1) x.size = n := ⟨_, rfl⟩
          rw [hn0] at hoz hoz4 e1
          rw [hr0] at hvz e2
          clear hlx
          rcases htk : tokL (x.data.toList.take o) with _ | _
          · have HTK : Box (tokL n0.data.toList = false) := box (by rw [e1]; exact htk)
            have HB := HBad.out (HNone.out (memV_name hi htk))
            clear hi htk e1 e2
            go_wp2_with fail
            refine (rIndex61_is hxm HI).mono ?_; rintro e w3 ⟨rfl, rfl⟩
            go_wp2_with fail
            refine (rToken_is hoz HTK).mono ?_; rintro e w3 ⟨rfl, rfl⟩
            go_wp2
            go_ret2
            exact varW_no HB (B2.out.trans (BL.out.mono hs2))
          · have HTK : Box (tokL n0.data.toList = true) := box (by rw [e1]; exact htk)
            rcases hvv : valuesL (x.data.toList.drop (o + 1)) with _ | X
            · have HVV : Box (valuesL r0.data.toList = none) := box (by rw [e2]; exact hvv)
              have HB := HBad.out (HNone.out (by rw [memV_val hi htk, hvv]; rfl))
              clear hi htk e1 e2 hvv
              go_wp2_with fail
              refine (rIndex61_is hxm HI).mono ?_; rintro e w3 ⟨rfl, rfl⟩
              go_wp2_with fail
              refine (rToken_is hoz HTK).mono ?_; rintro e w3 ⟨rfl, rfl⟩
              go_wp2_with fail
              refine (rValues_none hvz HVV).mono ?_; rintro e w4 ⟨rfl, hb4⟩
              have B4 := box (BL.out.trans (hb4.mono hBw))
              clear hb4
              go_wp2
              go_ret2
              exact varW_no HB (B2.out.trans (B4.out.mono hs2))
            · have HVV : Box (valuesL r0.data.toList = some X) := box (by rw [e2]; exact hvv)
              obtain ⟨nm, hnm⟩ : ∃ nm, bs (lowL (x.data.toList.take o)) = nm := ⟨_, rfl⟩
              have HLW : Box (bs (lowL n0.data.toList) = nm) := box (by rw [e1]; exact hnm)
              have hmv : memV x.data.toList = some (nm, X.map bs) := by rw [memV_val hi htk, hvv, ← hnm]; rfl
              have HN : Box (T = memsV (M.drop (j + 1)) (acc ++ [(nm, X.map bs)])) := box (HSome.out _ hmv)
              have SA2 : Box (smallA (acc ++ [(nm, X.map bs)])) := box (small_more SA.out (memV_size hmv) (by rw [show x.data.toList.length = x.size from by simp]; exact hxz))
              clear hi htk e1 e2 hvv hnm hmv
              go_wp2_with fail
              refine (rIndex61_is hxm HI).mono ?_; rintro e w3 ⟨rfl, rfl⟩
              go_wp2_with fail
              refine (rToken_is hoz HTK).mono ?_; rintro e w3 ⟨rfl, rfl⟩
              go_wp2_with fail
              refine (rValues_some hvz HVV).mono ?_; rintro e w4 ⟨v4, rfl, hO4, hb4⟩
              have O4 := box (O0.out.next hb4)
              have V4 := box (show OwnS w4 w2.heap.size v4 (X.map bs) from Go.Joins.ownsRow_le hO4 hBw)
              have B4 := box (BL.out.trans (hb4.mono hBw))
              have d1 := hb4.cell (p := ⟨q', off' + j, none⟩) (cell_lt c1)
              rw [c1] at d1
              obtain ⟨a4, c4, rfl, _, _⟩ := hO4.ss
              rw [List.length_map] at V4 ⊢
              clear hO4 hb4 c1
              go_wp2_with fail
              refine (rLower9_is (x := nm) hoz4 HLW).mono ?_; rintro e w5 ⟨rfl, hb5⟩
              have O5 := box (O4.out.next hb5)
              have V5 := box (show OwnS w5 w2.heap.size _ (X.map bs) from own_below V4.out hb5)
              have B5 := box (B4.out.trans (hb5.mono B4.out.size))
              clear hb5
              go_wp2_with (at_builtin; refine wpList_append_axis _ rfl (.tmp 51) (.tmp 61) rfl w2.heap.size _ acc rfl ?a1 _ _ rfl nm (.slice a4 X.length c4) (X.map bs) ?b1 ?b2 ?u1 ?c1 ?d1 ?_)
              case a1 => exact O5.out.next (below_new _ _)
              case b1 => go_simp
              case b2 => go_simp
              case u1 => exact own_below V5.out (below_new _ _)
              case c1 => omega
              case d1 => have := B5.out.size; simp; omega
              intro v6 w6 hO6 hb6
              have O6 := box hO6
              have B6 := box ((B5.out.alloc B5.out.size _).trans hb6)
              clear hO6 hb6
              go_wp2
              go_roundw
              case rel => exact ⟨j + 1, acc ++ [(nm, X.map bs)], by go_num, by omega, by rw [List.length_append]; simp only [List.length_cons, List.length_nil]; omega, HN.out, SA2, O6.out, B6.out⟩
              case measure => simp [intOf]; omega
      · have hji : ¬ (j : Int) < (M.length : Int) := by omega
        have HTA : Box (T = some acc) := box (by rw [HTj.out, List.drop_of_length_le (by omega)]; rfl)
        have hacc : acc.length ≤ 65536 := by omega
        rcases hvx : validX acc with _ | _
        · have HQ := box hvx
          have HB := box (vars_lim HH.out (HT.out.trans HTA.out) hvx)
          clear hvx
          go_wp2_with fail
          refine (rValidX_is O0.out hacc SA HQ).mono ?_; rintro e w3 ⟨rfl, hb3⟩
          have B3 := box (BL.out.trans (hb3.mono hBw))
          clear hb3
          go_wp2
          go_ret2
          exact varW_no HB (B2.out.trans (B3.out.mono hs2))
        · have HQ := box hvx
          have HB := box (vars_ok HH.out (HT.out.trans HTA.out) hvx)
          clear hvx
          go_wp2_with fail
          refine (rValidX_is O0.out hacc SA HQ).mono ?_; rintro e w3 ⟨rfl, hb3⟩
          have B3 := box (BL.out.trans (hb3.mono hBw))
          have O3 := box (O0.out.next hb3)
          clear hb3
          go_wp2
          go_ret2
          obtain ⟨d1, d2⟩ := HB.out
          exact ⟨_, by rw [d1]; rfl, by rw [d2]; exact O3.out.le hs2, B2.out.trans (B3.out.mono hs2)⟩
end
section
open Go.RowKit
theorem rJoin15_is {a : Option Addr} {n cap : Nat} {L : List ByteArray} {x : ByteArray} {w : World} (hn : Box (L.length = n)) (hl : Box (L.length ≤ 65536)) (hz : Box (∀ x ∈ L, x.size ≤ 65536)) (hF : Ss w a L) (h : Box (joinB L = x)) :
    Calls Tryz.prog 77 #[.slice a n cap] w fun e w' => e = .returned (.string x) ∧ w = w' := by
  have := (rJoin7_any a cap L w hl.out hz (box hF))
  rw [hn.out, h.out] at this; exact this
theorem rVis15_is {s : ByteArray} {b : Bool} {w : World} (hs : s.size ≤ maxLen) (h : Box (visL s.data.toList = b)) :
    Calls Tryz.prog 99 #[.string s] w fun e w' => e = .returned (.bool b) ∧ w = w' :=
  (rVisible_any s w hs).mono fun e w' ⟨h1, h2⟩ => ⟨by rw [h1, h.out], h2⟩
theorem plain_more {v : ByteArray} {m : Nat} (h : m < v.size) : (v.data.toList.take (m + 1)).all plainC = ((v.data.toList.take m).all plainC && plainC v[m]) := by
  have hl : m < v.data.toList.length := by simpa using h
  rw [take_next hl, List.all_append]
  have : v.data.toList[m] = v[m] := rfl
  rw [this]; simp
def WrRel (V : List ByteArray) (W : World) (s i : Value) (wr : World) : Prop :=
  ∃ (k : Nat) (x : ByteArray), i = .int .i64 k ∧ s = .string x ∧ k ≤ V.length ∧ x.data.toList = 40 :: joinW ((V.map fun v => v.data.toList).take k) ∧ x.size ≤ 2 + 3000 * k ∧ Below W.heap.size W wr
set_option maxHeartbeats 8000000 in
theorem rWritten_any (a : Option Addr) (cap : Nat) (V : List ByteArray) (w : World) (hl : V.length ≤ 65536) (hz : Box (∀ v ∈ V, v.size ≤ 1000)) (hF : Box (Ss w a V)) :
    Calls Tryz.prog 76 #[.slice a V.length cap] w fun e w' => e = .returned (.string (bs (writL (V.map fun v => v.data.toList)))) ∧ Below w.heap.size w w' := by
  go_enter Tryz.func76, Tryz.ntmps76
  go_wp2
  go_loopw [3, 4] (fun s i wr => WrRel V w s i wr) (fun _ i _ => V.length - (intOf i).toNat)
  case atStart => exact ⟨0, ⟨#[40]⟩, rfl, rfl, Nat.zero_le _, rfl, by decide, Below.refl _ _⟩
  case round =>
    obtain ⟨k, x, rfl, rfl, hk, hx, hxz, hbel⟩ := hrel
    have HX := box hx
    have BL := box hbel
    have hs0 := hbel.size
    clear hx hbel
    by_cases hlt : k < V.length
    · have hki : (k : Int) < (V.length : Int) := by omega
      obtain ⟨g, off, rfl, c0⟩ := (hF.out.below BL.out) k hlt
      obtain ⟨v, hv⟩ : ∃ v, V[k] = v := ⟨_, rfl⟩
      rw [hv] at c0
      have hvz : v.size ≤ 1000 := by rw [← hv]; exact hz.out _ (List.getElem_mem hlt)
      have hvm : v.size ≤ maxLen := by unfold maxLen; omega
      have hvq : v.size ≤ 1073741824 := by omega
      obtain ⟨y, hy⟩ : ∃ y : ByteArray, y.data.toList = (if k = 0 then x.data.toList else x.data.toList ++ [32]) ∧ (if 0 < k then x ++ (⟨#[32]⟩ : ByteArray) else x) = y ∧ y.size ≤ 2 + 3000 * k + 1 := by
        by_cases h0 : k = 0
        · exact ⟨x, by rw [if_pos h0], by rw [if_neg (by omega)], by omega⟩
        · exact ⟨x ++ ⟨#[32]⟩, by rw [if_neg h0]; simp [ByteArray.data_append], by rw [if_pos (by omega)], by rw [ByteArray.size_append]; show _ + 1 ≤ _; omega⟩
      have hyz := hy.2.2
      obtain ⟨ww, hww⟩ : ∃ ww, bs (wordW v.data.toList) = ww := ⟨_, rfl⟩
      have hwz : ww.size ≤ 2002 := by
        rw [← hww, bs_size]; have := word_len v.data.toList; have e : v.data.toList.length = v.size := by simp
        omega
      have HN : Box ((y ++ ww).data.toList = 40 :: joinW ((V.map fun v => v.data.toList).take (k + 1))) := box (by
        have hkm : k < (V.map fun v => v.data.toList).length := by simpa using hlt
        have hvk : (V.map fun v => v.data.toList)[k] = v.data.toList := by rw [List.getElem_map, hv]
        have hwd : ww.data.toList = wordW v.data.toList := by rw [← hww]; rfl
        rw [joinW_more hkm, hvk, ByteArray.data_append, Array.toList_append, hy.1, HX.out, hwd]
        split
        · rename_i h0; subst h0; simp [joinW]
        · simp)
      have HNZ : Box ((y ++ ww).size ≤ 2 + 3000 * (k + 1)) := box (by rw [ByteArray.size_append]; omega)
      have rA : ∀ w, (Op.stringOp .add x ⟨#[32]⟩).run Tryz.prog w = .ok (.string (x ++ ⟨#[32]⟩)) w := fun w => run_string_add_sum w _ _ (by show x.size + 1 ≤ 9223372036854775807; omega)
      have rB : ∀ w, (Op.stringOp .add y ww).run Tryz.prog w = .ok (.string (y ++ ww)) w := fun w => run_string_add_sum w _ _ (by show y.size + ww.size ≤ 9223372036854775807; omega)
      obtain ⟨b0, hb0⟩ : ∃ b, visL v.data.toList = b := ⟨_, rfl⟩
      have HB0 := box hb0
      have HW := box hww
      have HY : Box ((if 0 < k then x ++ (⟨#[32]⟩ : ByteArray) else x) = y) := box hy.2.1
      clear hv hy hb0 hww HX
      by_cases h0 : k = 0
      · subst h0
        rw [Nat.add_zero] at c0
        obtain rfl : x = y := by have := HY.out; rw [if_neg (by omega)] at this; exact this
        clear HY
        go_wp2_with fail
        refine (rVis15_is hvm HB0).mono ?_; rintro e w1 ⟨rfl, rfl⟩
        go_wp2
        go_loop [5, 6] (fun b i => ∃ m : Nat, i = .int .i64 m ∧ m ≤ v.size ∧ b = .bool (b0 && (v.data.toList.take m).all plainC)) (fun _ i => v.size - (intOf i).toNat)
        case atStart => exact ⟨0, rfl, Nat.zero_le _, by simp⟩
        case round =>
          obtain ⟨m, rfl, hm, rfl⟩ := hrel
          obtain ⟨bb, hbb⟩ : ∃ b, (b0 && (v.data.toList.take m).all plainC) = b := ⟨_, rfl⟩
          by_cases hmv : m < v.size
          · have hmi : (m : Int) < (v.size : Int) := by omega
            have hP := plain_more hmv
            rcases bb with _ | _
            · have HN2 : Box ((b0 && (v.data.toList.take (m + 1)).all plainC) = false) := box (by rw [hP, ← Bool.and_assoc, hbb]; rfl)
              rw [hbb]
              clear hbb hP
              go_wp2
              go_round
              case rel => exact ⟨m + 1, by go_num, by omega, by rw [HN2.out]⟩
              case measure => simp [intOf]; omega
            · obtain ⟨q, hq⟩ : ∃ q, plainC v[m] = q := ⟨_, rfl⟩
              have HN2 : Box ((b0 && (v.data.toList.take (m + 1)).all plainC) = q) := box (by rw [hP, ← Bool.and_assoc, hbb, hq]; rfl)
              have HQ := box hq
              rw [hbb]
              clear hbb hP hq
              go_wp2_with fail
              refine (rPlain_is HQ).mono ?_; rintro e w2 ⟨rfl, rfl⟩
              go_wp2
              go_round
              case rel => exact ⟨m + 1, by go_num, by omega, by rw [HN2.out]⟩
              case measure => simp [intOf]; omega
          · have hmi : ¬ (m : Int) < (v.size : Int) := by omega
            have hbv : (visL v.data.toList && v.data.toList.all plainC) = bb := by
              rw [HB0.out, ← hbb, List.take_of_length_le (by simp; omega)]
            rw [hbb]
            rcases bb with _ | _
            · have HQ : Box (bs (quoteL v.data.toList) = ww) := box (by rw [← HW.out]; unfold wordW; rw [if_neg (by rw [hbv]; simp)])
              clear hbb hbv
              go_wp2_with fail
              refine (rQuote_is hvq HQ).mono ?_; rintro e w2 ⟨rfl, hb2⟩
              have B2 := box (BL.out.trans (hb2.mono hs0))
              clear hb2
              go_wp2
              go_roundw
              case rel => exact ⟨0 + 1, x ++ ww, by go_num, rfl, by omega, HN.out, HNZ.out, B2.out⟩
              case measure => simp [intOf]; omega
            · have hvw : v = ww := by rw [← HW.out]; unfold wordW; rw [if_pos hbv]; rfl
              subst hvw
              clear hbb hbv
              go_wp2
              go_roundw
              case rel => exact ⟨0 + 1, x ++ v, by go_num, rfl, by omega, HN.out, HNZ.out, BL.out⟩
              case measure => simp [intOf]; omega
      · have hki0 : (0 : Int) < (k : Int) := by omega
        have hxy : x ++ (⟨#[32]⟩ : ByteArray) = y := by have := HY.out; rw [if_pos (by omega)] at this; exact this
        clear HY
        go_wp2_with fail
        refine (rVis15_is hvm HB0).mono ?_; rintro e w1 ⟨rfl, rfl⟩
        go_wp2
        go_loop [5, 6] (fun b i => ∃ m : Nat, i = .int .i64 m ∧ m ≤ v.size ∧ b = .bool (b0 && (v.data.toList.take m).all plainC)) (fun _ i => v.size - (intOf i).toNat)
        case atStart => exact ⟨0, rfl, Nat.zero_le _, by simp⟩
        case round =>
          obtain ⟨m, rfl, hm, rfl⟩ := hrel
          obtain ⟨bb, hbb⟩ : ∃ b, (b0 && (v.data.toList.take m).all plainC) = b := ⟨_, rfl⟩
          by_cases hmv : m < v.size
          · have hmi : (m : Int) < (v.size : Int) := by omega
            have hP := plain_more hmv
            rcases bb with _ | _
            · have HN2 : Box ((b0 && (v.data.toList.take (m + 1)).all plainC) = false) := box (by rw [hP, ← Bool.and_assoc, hbb]; rfl)
              rw [hbb]
              clear hbb hP
              go_wp2
              go_round
              case rel => exact ⟨m + 1, by go_num, by omega, by rw [HN2.out]⟩
              case measure => simp [intOf]; omega
            · obtain ⟨q, hq⟩ : ∃ q, plainC v[m] = q := ⟨_, rfl⟩
              have HN2 : Box ((b0 && (v.data.toList.take (m + 1)).all plainC) = q) := box (by rw [hP, ← Bool.and_assoc, hbb, hq]; rfl)
              have HQ := box hq
              rw [hbb]
              clear hbb hP hq
              go_wp2_with fail
              refine (rPlain_is HQ).mono ?_; rintro e w2 ⟨rfl, rfl⟩
              go_wp2
              go_round
              case rel => exact ⟨m + 1, by go_num, by omega, by rw [HN2.out]⟩
              case measure => simp [intOf]; omega
          · have hmi : ¬ (m : Int) < (v.size : Int) := by omega
            have hbv : (visL v.data.toList && v.data.toList.all plainC) = bb := by
              rw [HB0.out, ← hbb, List.take_of_length_le (by simp; omega)]
            rw [hbb]
            rcases bb with _ | _
            · have HQ : Box (bs (quoteL v.data.toList) = ww) := box (by rw [← HW.out]; unfold wordW; rw [if_neg (by rw [hbv]; simp)])
              clear hbb hbv
              go_wp2_with fail
              refine (rQuote_is hvq HQ).mono ?_; rintro e w2 ⟨rfl, hb2⟩
              have B2 := box (BL.out.trans (hb2.mono hs0))
              clear hb2
              go_wp2
              go_roundw
              case rel => exact ⟨k + 1, y ++ ww, by go_num, rfl, by omega, HN.out, HNZ.out, B2.out⟩
              case measure => simp [intOf]; omega
            · have hvw : v = ww := by rw [← HW.out]; unfold wordW; rw [if_pos hbv]; rfl
              subst hvw
              clear hbb hbv
              go_wp2
              go_roundw
              case rel => exact ⟨k + 1, y ++ v, by go_num, rfl, by omega, HN.out, HNZ.out, BL.out⟩
              case measure => simp [intOf]; omega
    · have hki : ¬ (k : Int) < (V.length : Int) := by omega
      have hxz2 : x.size ≤ 1000000000 := by omega
      have rC : ∀ w, (Op.stringOp .add x ⟨#[41]⟩).run Tryz.prog w = .ok (.string (x ++ ⟨#[41]⟩)) w := fun w => run_string_add_sum w _ _ (by show x.size + 1 ≤ 9223372036854775807; omega)
      have HE : Box (x ++ ⟨#[41]⟩ = bs (writL (V.map fun v => v.data.toList))) := box (by
        have h1 := HX.out
        rw [List.take_of_length_le (by simp; omega)] at h1
        apply ByteArray.ext
        apply Array.toList_inj.mp
        rw [ByteArray.data_append, Array.toList_append, h1]
        unfold writL
        simp [bs])
      go_wp2
      go_ret
      exact ⟨by rw [HE.out]; rfl, BL.out⟩
theorem rWritten_is {a : Option Addr} {cap : Nat} {V : List ByteArray} {x : ByteArray} {w : World} (hl : V.length ≤ 65536) (hz : Box (∀ v ∈ V, v.size ≤ 1000)) (hF : Ss w a V) (h : Box (bs (writL (V.map fun v => v.data.toList)) = x)) :
    Calls Tryz.prog 76 #[.slice a V.length cap] w fun e w' => e = .returned (.string x) ∧ Below w.heap.size w w' :=
  (rWritten_any a cap V w hl hz (box hF)).mono fun e w' ⟨h1, h2⟩ => ⟨by rw [h1, h.out], h2⟩
def AxRel (L : List AX) (W : World) (v i : Value) (wr : World) : Prop :=
  ∃ k : Nat, i = .int .i64 k ∧ k ≤ L.length ∧ OwnS wr W.heap.size v ((L.take k).map fun x => bs (axisL x)) ∧ Below W.heap.size W wr
set_option maxHeartbeats 8000000 in
theorem rAxesText_any (a : Option Addr) (cap : Nat) (L : List AX) (w : World) (hl : L.length ≤ 65536) (hz : Box (∀ i (hi : i < L.length), fitA L[i])) (hF : Box (Axs w a L)) :
    Calls Tryz.prog 52 #[.slice a L.length cap] w fun e w' => e = .returned (.string (axesB L)) ∧ Below w.heap.size w w' := by
  go_enter Tryz.func52, Tryz.ntmps52
  go_wp2
  go_loopw [3, 4] (fun v i wr => AxRel L w v i wr) (fun _ i _ => L.length - (intOf i).toNat)
  case atStart => exact ⟨0, rfl, Nat.zero_le _, OwnS.nil _ _, Below.refl _ _⟩
  case round =>
    obtain ⟨k, rfl, hk, hO, hbel⟩ := hrel
    have O0 := box hO
    have BL := box hbel
    have hs0 := hbel.size
    obtain ⟨av, cv, rfl, _, _⟩ := hO.ss
    rw [List.length_map, List.length_take, Nat.min_eq_left hk] at O0 ⊢
    clear hO hbel
    by_cases hlt : k < L.length
    · have hki : (k : Int) < (L.length : Int) := by omega
      have hk0 : (0 : Int) ≤ (k : Int) := by omega
      obtain ⟨g, off, v, rfl, c0, c1, b, c, rfl, hss, _⟩ := (hF.out.below BL.out) k hlt
      obtain ⟨z1, z2, z3⟩ := hz.out k hlt
      have hgl : g < w.heap.size := by
        obtain ⟨g', off', v', e, c9, _⟩ := hF.out k hlt
        cases e
        exact cell_lt c9
      obtain ⟨n, hn⟩ : ∃ n, L[k].1 = n := ⟨_, rfl⟩
      obtain ⟨V, hV⟩ : ∃ V, L[k].2 = V := ⟨_, rfl⟩
      rw [hn] at c0 z1
      rw [hV] at c1 hss z2 z3
      have SS := box hss
      have Z3 := box z3
      have hVl : V.length ≤ 65536 := by omega
      obtain ⟨x, hx⟩ : ∃ x, bs (writL (V.map fun v => v.data.toList)) = x := ⟨_, rfl⟩
      have hxz : x.size ≤ 41000 := by rw [← hx, bs_size]; exact writ_len z2 z3
      have HX := box hx
      have r1 : ∀ w, (Op.stringOp .add n ⟨#[61]⟩).run Tryz.prog w = .ok (.string (n ++ ⟨#[61]⟩)) w := fun w => run_string_add_sum w _ _ (by show n.size + 1 ≤ 9223372036854775807; omega)
      have r2 : ∀ w, (Op.stringOp .add (n ++ ⟨#[61]⟩) x).run Tryz.prog w = .ok (.string (n ++ ⟨#[61]⟩ ++ x)) w := fun w => run_string_add_sum w _ _ (by rw [ByteArray.size_append]; show n.size + 1 + x.size ≤ 9223372036854775807; omega)
      have HT : Box ((L.take (k + 1)).map (fun x => bs (axisL x)) = (L.take k).map (fun x => bs (axisL x)) ++ [n ++ ⟨#[61]⟩ ++ x]) := box (by
        rw [take_next hlt, List.map_append]
        congr 1
        rw [List.map_cons, List.map_nil]
        congr 1
        rw [bs_of (n ++ ⟨#[61]⟩ ++ x)]
        congr 1
        rw [ByteArray.data_append, ByteArray.data_append, Array.toList_append, Array.toList_append]
        unfold axisL
        rw [hn, hV, ← hx]
        simp [bs])
      have hlen : Box (((L.take k).map fun x => bs (axisL x)).length ≤ 65536) := box (by rw [List.length_map, List.length_take]; omega)
      clear hss z3 hn hV hx
      go_wp2
      refine wp_region_held_drew (S := (fun w' : World => (w'.cell? ⟨g, off + k * 2, none⟩ = some (.string n) ∧ w'.cell? ⟨g, off + k * 2 + 1, none⟩ = some (.slice b V.length c)) ∧ Box (Below w.heap.size w w'))) (by kernel_rfl) ⟨⟨c0, c1⟩, box BL.out.drew⟩ (fun hHeld => ?_)
      refine wpAnyH_take (i := 0) (oi := { dst := some 11, op := Op.move (Operand.tmp 3), type := 52, pos := "variants.go:200", after := #[], guard := none }) (v := ?v0z1) rfl (by kernel_rfl) (by kernel_rfl) (by kernel_rfl) (fun _ _ _ h => h) (Or.inl ⟨by rfl, ?y0z1⟩) (by assumption) ?r0z1
      case y0z1 => (intro w hSw; (try dsimp only at hSw); go_simp; first | done | with_reducible rfl)
      try simp only [Act.put, List.setIfInBounds_toArray, List.set_cons_zero, List.set_cons_succ]
      refine wpAnyH_take (i := 1) (oi := { dst := some 12, op := Op.move (Operand.tmp 0), type := 25, pos := "variants.go:200", after := #[], guard := none }) (v := ?v1z1) rfl (by kernel_rfl) (by kernel_rfl) (by kernel_rfl) (fun _ _ _ h => h) (Or.inl ⟨by rfl, ?y1z1⟩) (by assumption) ?r1z1
      case y1z1 => (intro w hSw; (try dsimp only at hSw); go_simp; first | done | with_reducible rfl)
      try simp only [Act.put, List.setIfInBounds_toArray, List.set_cons_zero, List.set_cons_succ]
      refine wpAnyH_take (i := 2) (oi := { dst := some 13, op := Op.move (Operand.tmp 4), type := 3, pos := "variants.go:200", after := #[], guard := none }) (v := ?v2z1) rfl (by kernel_rfl) (by kernel_rfl) (by kernel_rfl) (fun _ _ _ h => h) (Or.inl ⟨by rfl, ?y2z1⟩) (by assumption) ?r2z1
      case y2z1 => (intro w hSw; (try dsimp only at hSw); go_simp; first | done | with_reducible rfl)
      try simp only [Act.put, List.setIfInBounds_toArray, List.set_cons_zero, List.set_cons_succ]
      refine wpAnyH_take (i := 3) (oi := { dst := some 14, op := Op.indexAddr 25 (Operand.tmp 12) (Operand.tmp 13), type := 0, pos := "variants.go:200", after := #[{ on := 1, ground := Ground.data }, { on := 2, ground := Ground.data }], guard := none }) (v := ?v3z1) rfl (by kernel_rfl) (by kernel_rfl) (by kernel_rfl) (fun _ _ _ h => h) (Or.inl ⟨by rfl, ?y3z1⟩) (by assumption) ?r3z1
      case y3z1 => (intro w hSw; (try dsimp only at hSw); go_simp; first | done | with_reducible rfl)
      try simp only [Act.put, List.setIfInBounds_toArray, List.set_cons_zero, List.set_cons_succ]
      refine wpAnyH_take (i := 4) (oi := { dst := some 15, op := Op.fieldAddr 54 (Operand.tmp 14) 0, type := 0, pos := "variants.go:200", after := #[{ on := 3, ground := Ground.data }], guard := none }) (v := ?v4z1) rfl (by kernel_rfl) (by kernel_rfl) (by kernel_rfl) (fun _ _ _ h => h) (Or.inl ⟨by rfl, ?y4z1⟩) (by assumption) ?r4z1
      case y4z1 => (intro w hSw; (try dsimp only at hSw); go_simp; first | done | with_reducible rfl)
      try simp only [Act.put, List.setIfInBounds_toArray, List.set_cons_zero, List.set_cons_succ]
      refine wpAnyH_take (i := 5) (oi := { dst := some 16, op := Op.load 9 (Operand.tmp 15), type := 9, pos := "variants.go:200", after := #[{ on := 4, ground := Ground.data }], guard := none }) (v := ?v5z1) rfl (by kernel_rfl) (by kernel_rfl) (by kernel_rfl) (fun _ _ _ h => h) (Or.inl ⟨by rfl, ?y5z1⟩) (by assumption) ?r5z1
      case y5z1 => (intro w hSw; (try dsimp only at hSw); go_simp; first | done | with_reducible rfl)
      try simp only [Act.put, List.setIfInBounds_toArray, List.set_cons_zero, List.set_cons_succ]
      refine wpAnyH_take (i := 6) (oi := { dst := some 17, op := Op.binOp BinOp.add 9 (Operand.tmp 16) (Operand.const (Value.string { data := #[61] })) 9, type := 9, pos := "variants.go:200", after := #[{ on := 5, ground := Ground.data }], guard := none }) (v := ?v6z1) rfl (by kernel_rfl) (by kernel_rfl) (by kernel_rfl) (fun _ _ _ h => h) (Or.inl ⟨by rfl, ?y6z1⟩) (by assumption) ?r6z1
      case y6z1 => (intro w hSw; (try dsimp only at hSw); go_simp; first | done | with_reducible rfl)
      try simp only [Act.put, List.setIfInBounds_toArray, List.set_cons_zero, List.set_cons_succ]
      refine wpAnyH_take (i := 7) (oi := { dst := some 18, op := Op.move (Operand.tmp 0), type := 25, pos := "variants.go:200", after := #[], guard := none }) (v := ?v7z1) rfl (by kernel_rfl) (by kernel_rfl) (by kernel_rfl) (fun _ _ _ h => h) (Or.inl ⟨by rfl, ?y7z1⟩) (by assumption) ?r7z1
      case y7z1 => (intro w hSw; (try dsimp only at hSw); go_simp; first | done | with_reducible rfl)
      try simp only [Act.put, List.setIfInBounds_toArray, List.set_cons_zero, List.set_cons_succ]
      refine wpAnyH_take (i := 8) (oi := { dst := some 19, op := Op.move (Operand.tmp 4), type := 3, pos := "variants.go:200", after := #[], guard := none }) (v := ?v8z1) rfl (by kernel_rfl) (by kernel_rfl) (by kernel_rfl) (fun _ _ _ h => h) (Or.inl ⟨by rfl, ?y8z1⟩) (by assumption) ?r8z1
      case y8z1 => (intro w hSw; (try dsimp only at hSw); go_simp; first | done | with_reducible rfl)
      try simp only [Act.put, List.setIfInBounds_toArray, List.set_cons_zero, List.set_cons_succ]
      refine wpAnyH_take (i := 9) (oi := { dst := some 20, op := Op.indexAddr 25 (Operand.tmp 18) (Operand.tmp 19), type := 0, pos := "variants.go:200", after := #[{ on := 7, ground := Ground.data }, { on := 8, ground := Ground.data }], guard := none }) (v := ?v9z1) rfl (by kernel_rfl) (by kernel_rfl) (by kernel_rfl) (fun _ _ _ h => h) (Or.inl ⟨by rfl, ?y9z1⟩) (by assumption) ?r9z1
      case y9z1 => (intro w hSw; (try dsimp only at hSw); go_simp; first | done | with_reducible rfl)
      try simp only [Act.put, List.setIfInBounds_toArray, List.set_cons_zero, List.set_cons_succ]
      refine wpAnyH_take (i := 10) (oi := { dst := some 21, op := Op.fieldAddr 54 (Operand.tmp 20) 1, type := 0, pos := "variants.go:200", after := #[{ on := 9, ground := Ground.data }], guard := none }) (v := ?v10z1) rfl (by kernel_rfl) (by kernel_rfl) (by kernel_rfl) (fun _ _ _ h => h) (Or.inl ⟨by rfl, ?y10z1⟩) (by assumption) ?r10z1
      case y10z1 => (intro w hSw; (try dsimp only at hSw); go_simp; first | done | with_reducible rfl)
      try simp only [Act.put, List.setIfInBounds_toArray, List.set_cons_zero, List.set_cons_succ]
      refine wpAnyH_take (i := 11) (oi := { dst := some 22, op := Op.load 52 (Operand.tmp 21), type := 52, pos := "variants.go:200", after := #[{ on := 10, ground := Ground.data }], guard := none }) (v := ?v11z1) rfl (by kernel_rfl) (by kernel_rfl) (by kernel_rfl) (fun _ _ _ h => h) (Or.inl ⟨by rfl, ?y11z1⟩) (by assumption) ?r11z1
      case y11z1 => (intro w hSw; (try dsimp only at hSw); go_simp; first | done | with_reducible rfl)
      try simp only [Act.put, List.setIfInBounds_toArray, List.set_cons_zero, List.set_cons_succ]
      refine wpAnyH_ready (rs := [12]) (by kernel_rfl) (by simp) ?_
      refine AllReadyH.cons (o := { dst := some 23, op := Op.call { callee := Callee.value (Operand.func 76), args := #[Operand.tmp 22], argTypes := #[52] }, type := 9, pos := "variants.go:200", after := #[{ on := 11, ground := Ground.data }], guard := none }) rfl (fun K hK => ?_) AllReadyH.nil
      go_simp
      refine (rWritten_is hVl Z3 (SS.out.below (Below.refl _ _).drew) HX).mono ?_; rintro e w2 ⟨rfl, hb2⟩
      have O2 := box (own_below (show OwnS wr.drew w.heap.size _ _ from O0.out) hb2)
      have BW2 := box (hHeld.2.out.trans (hb2.mono hHeld.2.out.size))
      go_wp2_with fail
      refine hK.out _ _ ⟨⟨(hb2.cell (p := ⟨g, off + k * 2, none⟩) (cell_lt hHeld.1.1)).trans hHeld.1.1, (hb2.cell (p := ⟨g, off + k * 2 + 1, none⟩) (cell_lt hHeld.1.2)).trans hHeld.1.2⟩, box (hHeld.2.out.trans (hb2.mono hHeld.2.out.size))⟩ (fun hHeld => ?_)
      clear hK K
      try simp only [Act.put, List.setIfInBounds_toArray, List.set_cons_zero, List.set_cons_succ]
      refine wpAnyH_take (i := 13) (oi := { dst := some 24, op := Op.binOp BinOp.add 9 (Operand.tmp 17) (Operand.tmp 23) 9, type := 9, pos := "variants.go:200", after := #[{ on := 6, ground := Ground.data }, { on := 12, ground := Ground.data }], guard := none }) (v := ?v13z1) rfl (by kernel_rfl) (by kernel_rfl) (by kernel_rfl) (fun _ _ _ h => h) (Or.inl ⟨by rfl, ?y13z1⟩) (by assumption) ?r13z1
      case y13z1 => (intro w hSw; (try dsimp only at hSw); go_simp; first | done | with_reducible rfl)
      try simp only [Act.put, List.setIfInBounds_toArray, List.set_cons_zero, List.set_cons_succ]
      refine wpAnyH_ready (rs := [14]) (by kernel_rfl) (by simp) ?_
      refine AllReadyH.cons (o := { dst := some 25, op := Op.buildSlice 52 1 #[(0, Operand.tmp 24)], type := 52, pos := "variants.go:200", after := #[{ on := 13, ground := Ground.data }], guard := none }) rfl (fun K hK => ?_) AllReadyH.nil
      go_simp
      go_wp2_with fail
      refine hK.out _ _ ⟨⟨((below_new _ _).cell (p := ⟨g, off + k * 2, none⟩) (cell_lt hHeld.1.1)).trans hHeld.1.1, ((below_new _ _).cell (p := ⟨g, off + k * 2 + 1, none⟩) (cell_lt hHeld.1.2)).trans hHeld.1.2⟩, box (hHeld.2.out.trans ((below_new _ _).mono hHeld.2.out.size))⟩ (fun hHeld => ?_)
      clear hK K
      try simp only [Act.put, List.setIfInBounds_toArray, List.set_cons_zero, List.set_cons_succ]
      refine wpAnyH_ready (rs := [15]) (by kernel_rfl) (by simp) ?_
      refine AllReadyH.cons (o := { dst := some 26, op := Op.call { callee := Callee.builtin Builtin.append, args := #[Operand.tmp 11, Operand.tmp 25], argTypes := #[52, 52] }, type := 52, pos := "variants.go:200", after := #[{ on := 0, ground := Ground.data }, { on := 14, ground := Ground.data }, { on := 12, ground := Ground.chain }], guard := none }) rfl (fun K hK => ?_) AllReadyH.nil
      refine step_append_str _ rfl (.tmp 11) (.tmp 25) rfl w.heap.size _ _ rfl ?a1 _ _ rfl (n ++ ⟨#[61]⟩ ++ x) ?b1 hlen.out ?d1 ?_
      case a1 => exact own_below O2.out (below_new _ _)
      case b1 => go_simp
      case d1 => exact Nat.le_trans BW2.out.size (by simp)
      intro v6 w6 hO6 hb6
      refine hK.out _ _ ⟨⟨(hb6.cell (p := ⟨g, off + k * 2, none⟩) hgl).trans hHeld.1.1, (hb6.cell (p := ⟨g, off + k * 2 + 1, none⟩) hgl).trans hHeld.1.2⟩, box (hHeld.2.out.trans hb6)⟩ (fun hHeld => ?_)
      clear hK K
      try simp only [Act.put, List.setIfInBounds_toArray, List.set_cons_zero, List.set_cons_succ]
      refine wpAnyH_take (i := 16) (oi := { dst := some 3, op := Op.assign (Operand.tmp 26), type := 52, pos := "variants.go:200", after := #[{ on := 15, ground := Ground.data }, { on := 15, ground := Ground.chain }, { on := 0, ground := Ground.phase }, { on := 1, ground := Ground.phase }, { on := 2, ground := Ground.phase }, { on := 3, ground := Ground.phase }, { on := 4, ground := Ground.phase }, { on := 5, ground := Ground.phase }, { on := 6, ground := Ground.phase }, { on := 7, ground := Ground.phase }, { on := 8, ground := Ground.phase }, { on := 9, ground := Ground.phase }, { on := 10, ground := Ground.phase }, { on := 11, ground := Ground.phase }, { on := 12, ground := Ground.phase }, { on := 13, ground := Ground.phase }, { on := 14, ground := Ground.phase }, { on := 15, ground := Ground.phase }], guard := none }) (v := ?v16z1) rfl (by kernel_rfl) (by kernel_rfl) (by kernel_rfl) (fun _ _ _ h => h) (Or.inl ⟨by rfl, ?y16z1⟩) (by assumption) ?r16z1
      case y16z1 => (intro w hSw; (try dsimp only at hSw); go_simp; first | done | with_reducible rfl)
      try simp only [Act.put, List.setIfInBounds_toArray, List.set_cons_zero, List.set_cons_succ]
      refine wpAnyH_done (by kernel_rfl) ?_ _
      all_goals
        rw [← HT.out] at hO6
        have O6 := box hO6
        have B6 := hHeld.2
        clear hO6 hb6 hb2 hHeld
        go_wp2
        go_roundw
        case rel => exact ⟨k + 1, by go_num, by omega, O6.out, B6.out⟩
        case measure => simp [intOf]; omega
    · have hki : ¬ (k : Int) < (L.length : Int) := by omega
      obtain rfl : k = L.length := by omega
      rw [List.take_length] at O0
      have HJ : Box (joinB (L.map fun x => bs (axisL x)) = axesB L) := box rfl
      have hml : Box ((L.map fun x => bs (axisL x)).length = L.length) := box (List.length_map _)
      have hml6 : Box ((L.map fun x => bs (axisL x)).length ≤ 65536) := box (by rw [List.length_map]; exact hl)
      have hsz : Box (∀ y ∈ L.map (fun x => bs (axisL x)), y.size ≤ 65536) := box (fun y hy => by
        obtain ⟨x, hx, rfl⟩ := List.mem_map.1 hy
        obtain ⟨i, hi, rfl⟩ := List.mem_iff_getElem.1 hx
        obtain ⟨z1, z2, z3⟩ := hz.out i hi
        rw [bs_size]
        unfold axisL
        rw [List.length_append, List.length_cons]
        have := writ_len z2 z3
        have e : L[i].1.data.toList.length = L[i].1.size := by simp
        omega)
      obtain ⟨p, c, e, hSs, _⟩ := O0.out.ss
      injection e with e1 e2 e3
      subst e1
      clear e2 e3
      have SS := box hSs
      clear hSs
      go_wp2_with fail
      refine (rJoin15_is hml hml6 hsz SS.out HJ).mono ?_; rintro e w3 ⟨rfl, rfl⟩
      go_wp2
      go_ret
      exact ⟨rfl, BL.out⟩
end
section
open Go.RowKit
def GpRel (T : Option (List (List UInt8))) (n : Nat) (w : World) (v r m : Value) (wr : World) : Prop :=
  ∃ (M : List (List UInt8)) (t : ByteArray) (b : Bool), r = .string t ∧ m = .bool b ∧ t.size ≤ n ∧ M.length + t.size + (if b then 1 else 0) ≤ n + 1 ∧ T = grpF (moreL 32 b t.data.toList) M ∧ OwnS wr w.heap.size v (M.map bs) ∧ Below w.heap.size w wr
def msr15 (m r : Value) : Nat := match m, r with | .bool true, .string t => t.size + 1 | _, _ => 0
theorem pc_eat {sep : UInt8} {l p r : List UInt8} {m : Bool} (h : pcL sep l = (p, r, m)) : p.length + r.length + (if m then 1 else 0) = l.length := by
  have key : ∀ (l : List UInt8) (s : Nat) (acc : List UInt8), (pcF sep s l acc).1.length + (pcF sep s l acc).2.1.length + (if (pcF sep s l acc).2.2 then 1 else 0) = acc.length + l.length := by
    intro l
    induction l with
    | nil => intro s acc; simp [pcF]
    | cons c r ih =>
      intro s acc
      rw [pcF_cons]
      split
      · simp; omega
      · rw [ih]; simp; omega
  have := key l 0 []
  rw [show pcF sep 0 l [] = (p, r, m) from h] at this
  simpa using this
set_option maxHeartbeats 4000000 in
theorem grpLoop_any (s m : ByteArray) (T : Option (List (List UInt8))) (w : World) (hs : s.size ≤ 65000) (hm : m.size ≤ 65000) (h1 : Box (s.data.toList.head? = some 40)) (h2 : Box ((s.extract 1 s.size).data.toList.getLast? = some 41)) (hx : Box ((s.extract 1 s.size).extract 0 ((s.extract 1 s.size).size - 1) = m)) (hT : Box (valsL m.data.toList [] = T)) :
    Calls Tryz.prog 67 #[.string s] w fun e w' => valW w w' T e := by
  obtain ⟨m1, hm1⟩ : ∃ m1, s.extract 1 s.size = m1 := ⟨_, rfl⟩
  have hz1 : m1.size ≤ 65000 := by rw [← hm1]; simp; omega
  have HM1 := box hm1
  rw [hm1] at h2 hx
  clear hm1
  have HT : Box (T = grpF (cutL 32 m.data.toList) []) := box (by rw [← hT.out]; exact vals_grp _ _ _ (Nat.le_refl _))
  go_enter Tryz.func67, Tryz.ntmps67
  go_wp2_with fail
  refine (cutPre40_yes hs h1).mono ?_; rintro e w1 ⟨rfl, rfl⟩
  rw [HM1.out]
  go_wp2_with fail
  refine (cutSuf41_yes hz1 h2).mono ?_; rintro e w1 ⟨rfl, rfl⟩
  rw [hx.out]
  go_wp2_with fail
  go_loopw [7, 8, 9] (fun v r b wr => GpRel T m.size w v r b wr) (fun _ r b _ => msr15 b r)
  case atStart => exact ⟨[], m, true, rfl, rfl, Nat.le_refl _, by simp, HT.out, OwnS.nil _ _, Below.refl _ _⟩
  case round =>
    obtain ⟨M, t, b, rfl, rfl, hts, hML, hTM, hOM, hbel⟩ := hrel
    have O0 := box hOM
    have BL := box hbel
    have HM := box hTM
    have hBw := hbel.size
    obtain ⟨av, cv, rfl, _, _⟩ := hOM.ss
    rw [List.length_map] at O0 ⊢
    clear hOM hbel hTM
    rcases b with _ | _
    · have HF : Box (T = some M) := box (by rw [HM.out]; rfl)
      clear hML
      go_wp2
      go_ret2
      exact ⟨_, by rw [HF.out]; rfl, by rw [HF.out]; exact O0.out, BL.out, fun h => by rw [HF.out] at h; cases h⟩
    · have ht6 : t.size ≤ 65000 := by omega
      obtain ⟨p, r, b2, hp⟩ : ∃ p r b2, pcL 32 t.data.toList = (p, r, b2) := ⟨_, _, _, rfl⟩
      have HV : Box (pcV 32 t.data.toList = .tuple #[.string (bs p), .string (bs r), .bool b2]) := box (by unfold pcV; rw [hp])
      have hcut : T = grpF (p :: moreL 32 b2 r) M := by
        have := cut_piece5 t.data.toList
        rw [hp] at this
        rw [HM.out]
        show grpF (cutL 32 t.data.toList) M = _
        rw [this]
      have hsz := pc_eat hp
      rw [show t.data.toList.length = t.size from by simp] at hsz
      have hrz : (bs r).size ≤ m.size := by rw [bs_size]; omega
      have hms : Box (msr15 (.bool b2) (.string (bs r)) < t.size + 1) := box (by
        cases b2
        · exact Nat.zero_lt_succ _
        · show (bs r).size + 1 < t.size + 1
          rw [bs_size]; simp at hsz; omega)
      have hpz : (bs p).size ≤ 65000 := by rw [bs_size]; omega
      have HCut := box hcut
      have HML := box hML
      have HSZ := box hsz
      have h32 : ((32 : UInt8).toNat : Int) = 32 := rfl
      clear hp hcut HM hML hsz
      by_cases hpe : p = []
      · have hpe2 : (bs p).toList.isEmpty = true := by rw [toList_bs, hpe]; rfl
        have HN : Box (T = grpF (moreL 32 b2 (bs r).data.toList) M) := box (by rw [HCut.out, hpe, grpF_skip, bs_toList])
        have HN2 : Box (M.length + (bs r).size + (if b2 then 1 else 0) ≤ m.size + 1) := box (by
          have h1 := HML.out
          have h2 := HSZ.out
          rw [bs_size]
          simp only [if_true] at h1
          omega)
        have hpb : (bs p) = ⟨#[]⟩ := by rw [hpe]; rfl
        rw [hpb] at HV
        clear HCut hpe hpe2 hpb hpz HML HSZ
        go_wp2_with fail
        refine (pieceCut_any t 32 _ ht6).mono ?_; rintro e w1 ⟨rfl, hb1⟩
        rw [HV.out]
        have O1 := box (own_below O0.out hb1)
        have B1 := box (BL.out.trans (hb1.mono hBw))
        clear hb1
        go_wp2
        go_roundw
        case rel => exact ⟨M, bs r, b2, rfl, rfl, hrz, HN2.out, HN.out, O1.out, B1.out⟩
        case measure => exact hms.out
      · have hpe2 : ((bs p).toList == []) = false := by
          rw [toList_bs]; exact beq_eq_false_iff_ne.2 hpe
        have hpe3 : (bs p).toList.isEmpty = false := by
          rw [toList_bs]
          cases p with
          | nil => exact absurd rfl hpe
          | cons c r => rfl
        have HNE : Box ((bs p).data.toList ≠ []) := box (by rw [bs_toList]; exact hpe)
        cases hu : readV p with
        | none =>
          have HF : Box (T = none) := box (by rw [HCut.out, grpF_bad hpe hu])
          have HR : Box (rdV (bs p) = .tuple #[.string ⟨#[]⟩, .bool false]) := box (by unfold rdV; rw [bs_toList, hu])
          clear HCut hpe hu HML HSZ
          go_wp2_with fail
          refine (pieceCut_any t 32 _ ht6).mono ?_; rintro e w1 ⟨rfl, hb1⟩
          rw [HV.out]
          have B1 := box (BL.out.trans (hb1.mono hBw))
          clear hb1
          go_wp2_with fail
          refine (parseVal_any (bs p) _ _ hpz HNE HR).mono ?_; rintro e w2 ⟨rfl, hb2⟩
          have B2 := box (B1.out.trans (hb2.mono B1.out.size))
          clear hb2
          go_wp2
          go_ret2
          exact valW_none HF B2.out
        | some u =>
          obtain ⟨x, hx⟩ : ∃ x, bs u = x := ⟨_, rfl⟩
          have HN : Box (T = grpF (moreL 32 b2 (bs r).data.toList) (M ++ [u])) := box (by rw [HCut.out, grpF_more hpe hu, bs_toList])
          have HR : Box (rdV (bs p) = .tuple #[.string x, .bool true]) := box (by unfold rdV; rw [bs_toList, hu, ← hx])
          have HX : Box ((M ++ [u]).map bs = M.map bs ++ [x]) := box (by rw [List.map_append, List.map_cons, List.map_nil, hx])
          have hm6 : Box ((M.map bs).length ≤ 65536) := box (by rw [List.length_map]; have := HML.out; omega)
          have HN2 : Box ((M ++ [u]).length + (bs r).size + (if b2 then 1 else 0) ≤ m.size + 1) := box (by
            have h1 := HML.out
            have h2 := HSZ.out
            have h3 : 1 ≤ p.length := by
              cases p with
              | nil => exact absurd rfl hpe
              | cons c r => simp
            rw [bs_size, List.length_append]
            simp only [if_true] at h1
            simp only [List.length_cons, List.length_nil]
            omega)
          clear HCut hpe hu hx HML HSZ
          go_wp2_with fail
          refine (pieceCut_any t 32 _ ht6).mono ?_; rintro e w1 ⟨rfl, hb1⟩
          rw [HV.out]
          have O1 := box (own_below O0.out hb1)
          have B1 := box (BL.out.trans (hb1.mono hBw))
          clear hb1
          go_wp2_with fail
          refine (parseVal_any (bs p) _ _ hpz HNE HR).mono ?_; rintro e w2 ⟨rfl, hb2⟩
          have O2 := box (own_below O1.out hb2)
          have B2 := box (B1.out.trans (hb2.mono B1.out.size))
          have hBw2 := B2.out.size
          clear hb2
          go_wp2_with (at_builtin; refine wpList_append_str _ rfl (.tmp 46) (.tmp 48) rfl w.heap.size _ (M.map bs) rfl ?a1 _ _ rfl x ?b1 ?c1 ?d1 ?_)
          case a1 => exact own_below O2.out (below_new _ _)
          case b1 => go_simp
          case c1 => exact hm6.out
          case d1 => simp; omega
          intro v3 w3 hO3 hb3
          have O3 := box hO3
          have B3 := box ((B2.out.alloc hBw2 _).trans hb3)
          clear hO3 hb3
          go_wp2
          go_roundw
          case rel => exact ⟨M ++ [u], bs r, b2, rfl, rfl, hrz, HN2.out, HN.out, by rw [HX.out]; exact O3.out, B3.out⟩
          case measure => exact hms.out
theorem grp_head {s : ByteArray} (h : s.data.toList.head? ≠ some 40) : valuesL s.data.toList = none := by
  unfold valuesL; rw [if_pos (.inr (.inl h))]
theorem grp_ext {s : ByteArray} : (s.extract 1 s.size).data.toList = s.data.toList.drop 1 := by
  rw [ByteArray.data_extract, Array.toList_extract, List.extract_eq_take_drop, List.take_of_length_le (by simp)]
theorem grp_tail {s : ByteArray} (h : (s.data.toList.drop 1).getLast? ≠ some 41) : valuesL s.data.toList = none := by
  unfold valuesL
  by_cases h2 : s.data.toList.length < 2
  · rw [if_pos (.inl h2)]
  · refine if_pos (.inr (.inr (fun e => h ?_)))
    rw [List.getLast?_drop, if_neg (by omega)]; exact e
theorem grp_in {s m : ByteArray} (h1 : s.data.toList.head? = some 40) (h2 : (s.data.toList.drop 1).getLast? = some 41) (hm : (s.extract 1 s.size).extract 0 ((s.extract 1 s.size).size - 1) = m) : valuesL s.data.toList = valsL m.data.toList [] := by
  have hl : ¬ s.data.toList.length < 2 := fun e => by rw [List.getLast?_drop, if_pos (by omega)] at h2; cases h2
  have hlast : s.data.toList.getLast? = some 41 := by
    rw [List.getLast?_drop, if_neg (by omega)] at h2; exact h2
  unfold valuesL
  rw [if_neg]
  · rw [← hm, ByteArray.data_extract, Array.toList_extract, List.extract_eq_take_drop, grp_ext, List.drop_zero, List.dropLast_eq_take]
    congr 2
    have : (s.extract 1 s.size).size = s.size - 1 := by simp
    rw [this, List.length_drop]; simp
  · rintro (q | q | q)
    · exact hl q
    · exact q h1
    · exact q hlast
theorem grpParse_any (s : ByteArray) (w : World) (hs : s.size ≤ 65000) :
    Calls Tryz.prog 67 #[.string s] w fun e w' => valW w w' (valuesL s.data.toList) e := by
  by_cases h1 : s.data.toList.head? = some 40
  · by_cases h2 : (s.data.toList.drop 1).getLast? = some 41
    · obtain ⟨m, hm⟩ : ∃ m, (s.extract 1 s.size).extract 0 ((s.extract 1 s.size).size - 1) = m := ⟨_, rfl⟩
      rw [grp_in h1 h2 hm]
      have hmz : m.size ≤ 65000 := by rw [← hm]; simp; omega
      exact grpLoop_any s m _ w hs hmz (box h1) (box (by rw [grp_ext]; exact h2)) (box hm) (box rfl)
    · have HV : Box (valuesL s.data.toList = none) := box (grp_tail h2)
      obtain ⟨m1, hm1⟩ : ∃ m1, s.extract 1 s.size = m1 := ⟨_, rfl⟩
      have hz1 : m1.size ≤ 65000 := by rw [← hm1]; simp; omega
      have H2 : Box (m1.data.toList.getLast? ≠ some 41) := box (by rw [← hm1, grp_ext]; exact h2)
      have H1 := box h1
      have HM1 := box hm1
      generalize valuesL s.data.toList = T at HV
      clear h1 h2 hm1
      go_enter Tryz.func67, Tryz.ntmps67
      go_wp2_with fail
      refine (cutPre40_yes hs H1).mono ?_; rintro e w1 ⟨rfl, rfl⟩
      rw [HM1.out]
      go_wp2_with fail
      refine (cutSuf41_no hz1 H2).mono ?_; rintro e w1 ⟨rfl, rfl⟩
      go_wp2
      go_ret2
      exact valW_none HV (Below.refl _ _)
  · have HV : Box (valuesL s.data.toList = none) := box (grp_head h1)
    have H1 := box h1
    generalize valuesL s.data.toList = T at HV
    clear h1
    by_cases h2 : s.data.toList.getLast? = some 41
    · have H2 := box h2
      obtain ⟨m1, hm1⟩ : ∃ m1, s.extract 0 (s.size - 1) = m1 := ⟨_, rfl⟩
      have HM1 := box hm1
      clear h2 hm1
      go_enter Tryz.func67, Tryz.ntmps67
      go_wp2_with fail
      refine (cutPre40_no hs H1).mono ?_; rintro e w1 ⟨rfl, rfl⟩
      go_wp2_with fail
      refine (cutSuf41_yes hs H2).mono ?_; rintro e w1 ⟨rfl, rfl⟩
      rw [HM1.out]
      go_wp2
      go_ret2
      exact valW_none HV (Below.refl _ _)
    · have H2 : Box (s.data.toList.getLast? ≠ some 41) := box h2
      clear h2
      go_enter Tryz.func67, Tryz.ntmps67
      go_wp2_with fail
      refine (cutPre40_no hs H1).mono ?_; rintro e w1 ⟨rfl, rfl⟩
      go_wp2_with fail
      refine (cutSuf41_no hs H2).mono ?_; rintro e w1 ⟨rfl, rfl⟩
      go_wp2
      go_ret2
      exact valW_none HV (Below.refl _ _)
/-- the words of the first k values -/
def wtB (V : List ByteArray) (k : Nat) : List ByteArray := (V.take k).map fun x => bs (wordW x.data.toList)
theorem wtB_len {V : List ByteArray} {k : Nat} (h : k ≤ V.length) : (wtB V k).length = k := by unfold wtB; rw [List.length_map, List.length_take, Nat.min_eq_left h]
def GfRel (V : List ByteArray) (W : World) (v i : Value) (wr : World) : Prop :=
  ∃ k : Nat, i = .int .i64 k ∧ k ≤ V.length ∧ OwnS wr W.heap.size v (wtB V k) ∧ Below W.heap.size W wr
theorem join0_any (a : Option Addr) (cap : Nat) (L : List ByteArray) (x : ByteArray) (w : World) (hl : L.length ≤ 65536) (hc : L.length ≤ cap) (hz : Box (∀ x ∈ L, x.size ≤ 65536)) (hF : Box (Ss w a L)) (hx : Box (joinSB L = x)) :
    Calls Tryz.prog 75 #[.slice a L.length cap, .string ⟨#[32]⟩] w fun e w' => e = .returned (.string x) ∧ Below w.heap.size w w' := by
  by_cases h0 : L.length = 0
  · have hL : L = [] := List.eq_nil_of_length_eq_zero h0
    subst hL
    refine (Jsp0_any a cap w).mono ?_; rintro e w1 ⟨rfl, rfl⟩
    exact ⟨by rw [← hx.out]; rfl, Below.refl _ _⟩
  · obtain ⟨q, off, rfl, c0⟩ := hF.out 0 (by omega)
    by_cases h1 : L.length = 1
    · obtain ⟨y, rfl⟩ := List.length_eq_one_iff.1 h1
      refine (Jsp1_any q off cap y w (by simpa using c0)).mono ?_; rintro e w1 ⟨rfl, rfl⟩
      refine ⟨?_, Below.refl _ _⟩
      have : joinSB [y] = y := by unfold joinSB; simp [joinSp, ← bs_of]
      rw [← hx.out, this]
    · refine (JspN_any q off cap L w (by omega) hl hc hz hF).mono ?_; rintro e w1 ⟨rfl, hb⟩
      exact ⟨by rw [hx.out], hb⟩
theorem join_any (a : Option Addr) (cap n : Nat) (L : List ByteArray) (x : ByteArray) (w : World) (hn : Box (L.length = n)) (hl : n ≤ 65536) (hc : n ≤ cap) (hz : Box (∀ x ∈ L, x.size ≤ 65536)) (hF : Box (Ss w a L)) (hx : Box (joinSB L = x)) :
    Calls Tryz.prog 75 #[.slice a n cap, .string ⟨#[32]⟩] w fun e w' => e = .returned (.string x) ∧ Below w.heap.size w w' := by
  have h := hn.out
  subst h
  exact join0_any a cap L x w hl hc hz hF hx
set_option maxHeartbeats 4000000 in
theorem grpFormat_any (a : Option Addr) (cap : Nat) (V : List ByteArray) (x : ByteArray) (w : World) (hl : V.length ≤ 20) (hz : Box (∀ v ∈ V, v.size ≤ 1000)) (hF : Box (Ss w a V)) (hx : Box (bs (writL (V.map fun v => v.data.toList)) = x)) :
    Calls Tryz.prog 50 #[.slice a V.length cap] w fun e w' => e = .returned (.string x) ∧ Below w.heap.size w w' := by
  go_enter Tryz.func50, Tryz.ntmps50
  go_wp2
  go_loopw [3, 8] (fun v i wr => GfRel V w v i wr) (fun _ i _ => V.length - (intOf i).toNat)
  case atStart => exact ⟨0, rfl, Nat.zero_le _, OwnS.nil _ _, Below.refl _ _⟩
  case round =>
    obtain ⟨k, rfl, hk, hO, hbel⟩ := hrel
    have O0 := box hO
    have BL := box hbel
    have hBw := hbel.size
    obtain ⟨av, cv, rfl, hss, hcv⟩ := hO.ss
    rw [wtB_len hk] at O0 hcv ⊢
    have SS := box hss
    clear hO hbel hss
    by_cases hlt : k < V.length
    · obtain ⟨g, off, rfl, c0⟩ := (hF.out.below BL.out) k hlt
      have hvz := hz.out V[k] (List.getElem_mem hlt)
      obtain ⟨y, hy⟩ : ∃ y, V[k] = y := ⟨_, rfl⟩
      obtain ⟨z, hzq⟩ : ∃ z, bs (wordW y.data.toList) = z := ⟨_, rfl⟩
      rw [hy] at c0 hvz
      have HZ := box hzq
      have hv6 : y.size ≤ 65000 := by omega
      have HX : Box (wtB V (k + 1) = wtB V k ++ [z]) := box (by
        unfold wtB
        rw [take_next hlt, List.map_append, List.map_cons, List.map_nil, hy, hzq])
      have hk6 : Box ((wtB V k).length ≤ 65536) := box (by rw [wtB_len hk]; omega)
      clear hy hzq
      go_wp2_with fail
      refine (formatVal_any y z _ hv6 HZ).mono ?_; rintro e w1 ⟨rfl, hb1⟩
      have O1 := box (own_below O0.out hb1)
      have B1 := box (BL.out.trans (hb1.mono hBw))
      have hBw1 := B1.out.size
      clear hb1 c0
      go_wp2_with (at_builtin; refine wpList_append_str _ rfl (.tmp 12) (.tmp 15) rfl w.heap.size _ (wtB V k) rfl ?a1 _ _ rfl z ?b1 ?c1 ?d1 ?_)
      case a1 => exact own_below O1.out (below_new _ _)
      case b1 => go_simp
      case c1 => exact hk6.out
      case d1 => simp; omega
      intro v3 w3 hO3 hb3
      have O3 := box hO3
      have B3 := box ((B1.out.alloc hBw1 _).trans hb3)
      clear hO3 hb3
      go_wp2
      go_roundw
      case rel => exact ⟨k + 1, by go_num, by omega, by rw [HX.out]; exact O3.out, B3.out⟩
      case measure => simp [intOf]; omega
    · obtain rfl : k = V.length := by omega
      obtain ⟨L, hL⟩ : ∃ L, wtB V V.length = L := ⟨_, rfl⟩
      have hLl : L.length = V.length := by rw [← hL]; exact wtB_len (Nat.le_refl _)
      have hLz : Box (∀ x ∈ L, x.size ≤ 65536) := box (fun x hx => by
        rw [← hL] at hx
        unfold wtB at hx
        rw [List.take_length] at hx
        obtain ⟨v, hv, rfl⟩ := List.mem_map.1 hx
        have h1 := hz.out v hv
        have h2 := word_len v.data.toList
        rw [bs_size]
        have : v.data.toList.length = v.size := by simp
        omega)
      obtain ⟨y, hy⟩ : ∃ y, joinSB L = y := ⟨_, rfl⟩
      have HY := box hy
      have hyl : y.data.toList = joinW (V.map fun v => v.data.toList) := by
        rw [← hy, ← hL, joinW_sp]
        unfold joinSB wtB
        rw [bs_toList, List.take_length, List.map_map, List.map_map]
        rfl
      have HE : Box ((⟨#[40]⟩ : ByteArray) ++ y ++ (⟨#[41]⟩ : ByteArray) = x) := box (by
        rw [← hx.out]
        unfold writL
        rw [← hyl, bs_of ((⟨#[40]⟩ : ByteArray) ++ y ++ (⟨#[41]⟩ : ByteArray))]
        rfl)
      have hyz : y.size ≤ 41000 := by
        have h1 := writ_len hl hz.out
        unfold writL at h1
        rw [← hyl] at h1
        simp at h1
        omega
      rw [hL] at SS
      have HLL := box hLl
      have hl6 : V.length ≤ 65536 := by omega
      clear hL hy hyl hLl
      clear O0
      go_wp2_with fail
      refine (join_any av cv V.length L y _ HLL hl6 hcv hLz SS HY).mono ?_; rintro e w2 ⟨rfl, hb2⟩
      have B2 := box (BL.out.trans (hb2.mono hBw))
      clear hb2
      go_wp2
      go_ret
      exact ⟨by rw [← HE.out]; rfl, B2.out⟩
end
end Go.Proofs.YtodbmdekgfcjpaaGreat.Asc
