/- Merged texts: VarSpec PrfMem AccRef MedRef4 LstRem LstClo LanRef. -/
import Derived.Test.YtjjlgnackjjbfaaGreatDoorM03
import Derived.Test.YtjjlgnackjjbfaaGreatDoorM04
import Derived.Test.YtjjlgnackjjbfaaGreatDoorM05
import Derived.Test.YtjjlgnackjjbfaaGreatDoorM06
import Derived.Test.YtjjlgnackjjbfaaGreatDoorM07
import Derived.Test.YtjjlgnackjjbfaaGreatDoorM08
import Derived.Deep.RegionHeld3
import Derived.Laws.EntriesVeiled
import Derived.Lib.SliceRun
set_option linter.unusedVariables false
set_option linter.unusedSimpArgs false
set_option maxRecDepth 100000
namespace Go.Proofs.YtjjlgnackjjbfaaGreatDoor.Asc
section
abbrev AX := ByteArray × List ByteArray
def noB : ByteArray := ⟨#[]⟩
def qName : ByteArray := ⟨#[113]⟩
def atS (L : List ByteArray) (i : Nat) : ByteArray := L.getD i noB
def atP (L : List F) (i : Nat) : ByteArray := (L.getD i (noB, noB)).1
def atA (L : List AX) (i : Nat) : AX := L.getD i (noB, [])
/-- the first k names of parameters differ from the one at i -/
def newP (L : List F) (i k : Nat) : Bool := (List.range k).all fun j => decide (atP L i ≠ atP L j)
/-- the first n parameters have names of their own, none of them q -/
def ownP (L : List F) (n : Nat) : Bool := (List.range n).all fun i => newP L i i && decide (atP L i ≠ qName)
def valueV (n x : ByteArray) : Bool :=
  if kindN n = 1 then (mediaL x.data.toList).isSome && ownP (ofM (mediaL x.data.toList)).2.2 (ofM (mediaL x.data.toList)).2.2.length
  else if kindN n = 2 then tagL x.data.toList
  else if kindN n = 3 ∨ kindN n = 4 then tokL x.data.toList && decide (x ≠ star)
  else decide (1 ≤ x.size) && decide (x.size ≤ 100) && textL x.data.toList && decide (trimL x.data.toList = x.data.toList)
def sameV (n x y : ByteArray) : Bool :=
  if kindN n = 1 ∨ kindN n = 2 then foldL x.data.toList y.data.toList
  else if kindN n = 3 ∨ kindN n = 4 then decide (canL (kindN n) x.data.toList = canL (kindN n) y.data.toList)
  else decide (x = y)
/-- the value at i is the Same as none of the first k -/
def newV (n : ByteArray) (V : List ByteArray) (i k : Nat) : Bool := (List.range k).all fun j => !sameV n (atS V i) (atS V j)
def valsV (n : ByteArray) (V : List ByteArray) (m : Nat) : Bool := (List.range m).all fun i => valueV n (atS V i) && newV n V i i
def headV (n : ByteArray) (V : List ByteArray) : Bool := tokL n.data.toList && decide (lowL n.data.toList = n.data.toList) && decide (1 ≤ V.length) && decide (V.length ≤ 16)
def validA (x : AX) : Bool := headV x.1 x.2 && valsV x.1 x.2 x.2.length
def newA (L : List AX) (i k : Nat) : Bool := (List.range k).all fun j => decide ((atA L i).1 ≠ (atA L j).1)
def axesV (L : List AX) (m : Nat) : Bool := (List.range m).all fun i => validA (atA L i) && newA L i i
def validX (L : List AX) : Bool := decide (1 ≤ L.length) && decide (L.length ≤ 4) && axesV L L.length
theorem range_more (n : Nat) (f : Nat → Bool) : (List.range (n + 1)).all f = ((List.range n).all f && f n) := by
  rw [List.range_succ, List.all_append]; simp
theorem newP_more (L : List F) (i k : Nat) : newP L i (k + 1) = (newP L i k && decide (atP L i ≠ atP L k)) := range_more _ _
theorem ownP_more (L : List F) (n : Nat) : ownP L (n + 1) = (ownP L n && (newP L n n && decide (atP L n ≠ qName))) := range_more _ _
theorem newV_more (n : ByteArray) (V : List ByteArray) (i k : Nat) : newV n V i (k + 1) = (newV n V i k && !sameV n (atS V i) (atS V k)) := range_more _ _
theorem valsV_more (n : ByteArray) (V : List ByteArray) (m : Nat) : valsV n V (m + 1) = (valsV n V m && (valueV n (atS V m) && newV n V m m)) := range_more _ _
theorem newA_more (L : List AX) (i k : Nat) : newA L i (k + 1) = (newA L i k && decide ((atA L i).1 ≠ (atA L k).1)) := range_more _ _
theorem axesV_more (L : List AX) (m : Nat) : axesV L (m + 1) = (axesV L m && (validA (atA L m) && newA L m m)) := range_more _ _
theorem range_no {n i : Nat} {f : Nat → Bool} (h : i < n) (hf : f i = false) : (List.range n).all f = false := by
  rw [List.all_eq_false]; exact ⟨i, List.mem_range.2 h, by simp [hf]⟩
theorem atS_is {L : List ByteArray} {i : Nat} (h : i < L.length) : atS L i = L[i] := by unfold atS; simp [h]
theorem atP_is {L : List F} {i : Nat} (h : i < L.length) : atP L i = L[i].1 := by unfold atP; simp [h]
theorem atA_is {L : List AX} {i : Nat} (h : i < L.length) : atA L i = L[i] := by unfold atA; simp [h]
def okA (x : AX) : Bool := decide (x.1.size ≤ 100) && keepS x.2
def keepA (L : List AX) : Bool := L.all okA && decide (L.length ≤ 6)
theorem keepA_more {L : List AX} {k : Nat} (h : k < L.length) (ha : (L.take k).all okA = true) (h1 : L[k].1.size ≤ 100) (h2 : keepS L[k].2 = true) : (L.take (k + 1)).all okA = true := by
  rw [take_next h, List.all_append, ha]
  simp [okA, h1, h2]
theorem keepA_bad {L : List AX} {k : Nat} (h : k < L.length) (h1 : okA L[k] = false) : keepA L = false := by
  have : L.all okA = false := by rw [List.all_eq_false]; exact ⟨L[k], List.getElem_mem h, by simp [h1]⟩
  unfold keepA; rw [this]; rfl
theorem keepA_long {L : List AX} (h : ¬ L.length ≤ 6) : keepA L = false := by unfold keepA; simp [h]
theorem keepA_end {L : List AX} (ha : (L.take L.length).all okA = true) (h : L.length ≤ 6) : keepA L = true := by
  rw [List.take_length] at ha
  unfold keepA; rw [ha]; simp [h]
theorem keepA_parts {L : List AX} (h : keepA L = true) : L.length ≤ 6 ∧ ∀ i (hi : i < L.length), L[i].1.size ≤ 100 ∧ L[i].2.length ≤ 20 ∧ ∀ x ∈ L[i].2, x.size ≤ 100 := by
  unfold keepA at h
  simp only [Bool.and_eq_true, decide_eq_true_eq] at h
  refine ⟨h.2, fun i hi => ?_⟩
  have := List.all_eq_true.mp h.1 L[i] (List.getElem_mem hi)
  unfold okA at this
  rw [Bool.and_eq_true, decide_eq_true_eq] at this
  exact ⟨this.1, keepS_small this.2⟩
theorem choose_list {α : Type} {P : Nat → α → Prop} : ∀ n, (∀ i, i < n → ∃ x, P i x) → ∃ L : List α, L.length = n ∧ ∀ i (h : i < L.length), P i L[i]
  | 0, _ => ⟨[], rfl, fun i h => absurd h (by simp)⟩
  | n + 1, h => by
    obtain ⟨L, hl, hL⟩ := choose_list n (fun i hi => h i (by omega))
    obtain ⟨x, hx⟩ := h n (by omega)
    refine ⟨L ++ [x], by simp [hl], fun i hi => ?_⟩
    by_cases e : i < L.length
    · rw [List.getElem_append_left e]; exact hL i e
    · have : i = n := by rw [List.length_append] at hi; simp at hi; omega
      subst this
      rw [List.getElem_append_right (by omega)]
      simpa using hx
end
section
open Go.RowKit Go.ChangeShapes Go.WideShapes Go.Deep
abbrev QP := ByteArray × Int
/-- preferences at an address -/
def Qs (w : World) (a : Option Addr) (L : List QP) : Prop :=
  ∀ i (h : i < L.length), ∃ g off, a = some ⟨g, off, none⟩ ∧ w.cell? ⟨g, off + i * 2, none⟩ = some (.string L[i].1) ∧ w.cell? ⟨g, off + i * 2 + 1, none⟩ = some (.int .i64 L[i].2)
theorem Qs.below {w w' : World} {a : Option Addr} {L : List QP} (h : Qs w a L) (hb : Below w.heap.size w w') : Qs w' a L := fun i hi => by
  obtain ⟨g, off, e, c0, c1⟩ := h i hi
  exact ⟨g, off, e, (hb.cell (cell_lt c0)).trans c0, (hb.cell (cell_lt c1)).trans c1⟩
theorem info_prf : (Tryz.prog.info? 60).map (fun i => (i.zero, i.size, i.bytes)) = some (some (.agg #[.string ⟨#[]⟩, .int .i64 0]), 2, 24) := by kernel_rfl
def cellsQ (L : List QP) : List Value := L.flatMap fun p => [.string p.1, .int .i64 p.2]
theorem cellsQ_len (L : List QP) : (cellsQ L).length = L.length * 2 := by
  induction L with
  | nil => rfl
  | cons p L ih => simp only [cellsQ, List.flatMap_cons, List.length_append, List.length_cons, List.length_nil] at *; omega
theorem cellsQ_app (L M : List QP) : cellsQ (L ++ M) = cellsQ L ++ cellsQ M := by simp [cellsQ]
theorem cellsQ_at (L : List QP) (i : Nat) (h : i < L.length) : (cellsQ L)[i * 2]? = some (.string L[i].1) ∧ (cellsQ L)[i * 2 + 1]? = some (.int .i64 L[i].2) := by
  have e : L = L.take i ++ L[i] :: L.drop (i + 1) := by rw [← List.drop_eq_getElem_cons h, List.take_append_drop]
  have hl : (cellsQ (L.take i)).length = i * 2 := by rw [cellsQ_len, List.length_take, Nat.min_eq_left (Nat.le_of_lt h)]
  have e2 : cellsQ L = cellsQ (L.take i) ++ (.string L[i].1 :: .int .i64 L[i].2 :: cellsQ (L.drop (i + 1))) := by
    conv => lhs; rw [e, cellsQ_app]
    rfl
  rw [e2]
  constructor
  · rw [List.getElem?_append_right (by omega), hl]; simp
  · rw [List.getElem?_append_right (by omega), hl]; simp
def OwnQ (w : World) (B : Nat) (v : Value) (L : List QP) : Prop := w.ownsRow B 60 2 v L.length (cellsQ L)
section
variable {w w' : World} {B : Nat} {v : Value}
theorem OwnQ.nil (w : World) (B : Nat) : OwnQ w B (.slice none 0 0) [] := World.ownsRow_nil _ _ _ _
/-- what a slice of preferences that a call owns looks like -/
theorem OwnQ.qs {L : List QP} (h : OwnQ w B v L) : ∃ a cap, v = .slice a L.length cap ∧ Qs w a L ∧ L.length ≤ cap := by
  rcases h.2 with ⟨rfl, hn⟩ | ⟨g, cap, cur, rfl, hB, hg, hc, hm, hs, ht⟩
  · exact ⟨none, 0, by rw [hn], fun i hi => by omega, by omega⟩
  · refine ⟨_, cap, rfl, fun i hi => ⟨g, 0, rfl, ?_, ?_⟩, hc⟩
    all_goals
      obtain ⟨q0, q1⟩ := cellsQ_at L i hi
      rw [← ht] at q0 q1
      rw [List.getElem?_take] at q0 q1
      rw [if_pos (by omega)] at q0 q1
      simp only [World.cell?, hg]
    · simpa using q0
    · simpa [Nat.add_assoc] using q1
end
/-- append of one preference that lies in a block of its own -/
theorem wpList_append_prf (w : World) {ops : Array Oper} {rest : List Oper} {o : Oper} {a : Act} {Q : Exit → Act → World → Prop} (hgd : o.guard = none) (s x : Operand)
    (ho : o.op = .call { callee := .builtin .append, args := #[s, x], argTypes := #[41, 41] })
    (B : Nat) (v : Value) (L : List QP) (hs : a.eval s = v) (hown : OwnQ w B v L)
    (g : Nat) (c : Nat) (hx : a.eval x = .slice (some ⟨g, 0, none⟩) 1 c) (n : ByteArray) (u : Int) (h0 : w.cell? ⟨g, 0, none⟩ = some (.string n)) (h1 : w.cell? ⟨g, 1, none⟩ = some (.int .i64 u)) (hl : L.length ≤ 65536) (hB : B ≤ w.heap.size)
    (h : ∀ v' w', OwnQ w' B v' (L ++ [(n, u)]) → Below B w w' → wpList Tryz.prog ops Q rest (a.put o.dst v') w') : wpList Tryz.prog ops Q (o :: rest) a w := by
  obtain ⟨i0, hi0, hz0, hz1, hz2⟩ := info_parts info_prf
  refine wpList_append_own (P := Tryz.prog) w hgd s x 41 ho B 60 i0 _ 2 24 Tryz.underlying41 hi0 hz0 hz1 hz2 rfl (by decide) v L.length (cellsQ L) hs hown ⟨g, 0, none⟩ 1 c [.string n, .int .i64 u] hx rfl ?_ ?_ (by unfold maxLen; omega) (by omega) hB ?_
  · intro j u hj
    match j, hj with
    | 0, hj => simp at hj; subst hj; simpa [Addr.add] using h0
    | 1, hj => simp at hj; subst hj; simpa [Addr.add] using h1
  · intro u hu; simp at hu; rcases hu with rfl | rfl <;> rfl
  · intro v' w' q1 q2 _
    refine h v' w' (by simpa [OwnQ, cellsQ_app, cellsQ] using q1) ((Below.refl _ _).grown q2 hB (fun k hk => own_block hown k hk))
end
section
open Go.RowKit
/-- two values lie at the block's start, and may be written -/
def C2 (g : Nat) (c0 c1 : Value) (w : World) : Prop :=
  (w.cell? ⟨g, 0, none⟩ = some c0 ∧ w.cell? ⟨g, 1, none⟩ = some c1) ∧ (w.frozen? ⟨g, 0, none⟩ = false ∧ w.frozen? ⟨g, 1, none⟩ = false)
section
variable {g B : Nat} {c0 c1 : Value} {w w' : World}
theorem C2.new (c0 c1 : Value) (w : World) (t : TypeId) : C2 w.heap.size c0 c1 (w.alloc (.cells #[c0, c1] t)) := by
  refine ⟨⟨?_, ?_⟩, ⟨?_, ?_⟩⟩
  all_goals first
    | (rw [World.cell?_alloc_mark]; rfl)
    | exact World.frozen?_alloc_at _ _ _ _ rfl
theorem C2.below (f : C2 g c0 c1 w) (hb : Below B w w') (hg : g < B) : C2 g c0 c1 w' := by
  obtain ⟨⟨h0, h1⟩, ⟨f0, f1⟩⟩ := f
  exact ⟨⟨(hb.cell hg).trans h0, (hb.cell hg).trans h1⟩, ⟨(hb.frozen hg).trans f0, (hb.frozen hg).trans f1⟩⟩
theorem C2.lt (f : C2 g c0 c1 w) : g < w.heap.size := cell_lt (p := ⟨g, 0, none⟩) f.1.1
theorem C2.next (f : C2 g c0 c1 w) (hb : Below w.heap.size w w') : C2 g c0 c1 w' := f.below hb f.lt
end
theorem below2 {w w1 : World} {g : Nat} (h : Below w.heap.size w w1) (hg : w.heap.size ≤ g) (v0 v1 : Value) : Below w.heap.size w ((w1.setCell ⟨g, 0, none⟩ v0).setCell ⟨g, 1, none⟩ v1) :=
  (h.setCell (p := ⟨g, 0, none⟩) hg v0).setCell (p := ⟨g, 1, none⟩) hg v1
theorem name_no {k : Int} (h1 : ¬ k = 1) (h2 : ¬ k = 2) (h3 : ¬ k = 3) (h4 : ¬ k = 4) : nameK k = ⟨#[]⟩ := by unfold nameK; rw [if_neg h1, if_neg h2, if_neg h3, if_neg h4]
theorem rName_any (k : Int) (w : World) (hk : InI64 k) :
    Calls Tryz.prog 35 #[.int .i64 k] w fun e w' => e = .returned (.string (nameK k)) ∧ w = w' := by
  by_cases h1 : k = 1
  · subst h1
    go_enter Tryz.func35, Tryz.ntmps35
    go_wp2
    go_ret
    exact ⟨rfl, rfl⟩
  · by_cases h2 : k = 2
    · subst h2
      go_enter Tryz.func35, Tryz.ntmps35
      go_wp2
      go_ret
      exact ⟨rfl, rfl⟩
    · by_cases h3 : k = 3
      · subst h3
        go_enter Tryz.func35, Tryz.ntmps35
        go_wp2
        go_ret
        exact ⟨rfl, rfl⟩
      · by_cases h4 : k = 4
        · subst h4
          go_enter Tryz.func35, Tryz.ntmps35
          go_wp2
          go_ret
          exact ⟨rfl, rfl⟩
        · have HV := box (name_no h1 h2 h3 h4)
          have e1 : (k == 1) = false := by rw [beq_eq_false_iff_ne]; exact h1
          have e2 : (k == 2) = false := by rw [beq_eq_false_iff_ne]; exact h2
          have e3 : (k == 3) = false := by rw [beq_eq_false_iff_ne]; exact h3
          have e4 : (k == 4) = false := by rw [beq_eq_false_iff_ne]; exact h4
          clear h1 h2 h3 h4
          go_enter Tryz.func35, Tryz.ntmps35
          go_wp2
          go_ret
          exact ⟨by rw [HV.out]; rfl, rfl⟩
theorem rName_is {k : Int} {x : ByteArray} {w : World} (hk : InI64 k) (h : Box (nameK k = x)) :
    Calls Tryz.prog 35 #[.int .i64 k] w fun e w' => e = .returned (.string x) ∧ w = w' :=
  (rName_any k w hk).mono fun e w' ⟨h1, h2⟩ => ⟨by rw [h1, h.out], h2⟩
theorem rFold13_is {a b : ByteArray} {q : Bool} {w : World} (ha : a.size ≤ 4294967296) (hb : b.size ≤ 4294967296) (h : Box (foldL a.data.toList b.data.toList = q)) :
    Calls Tryz.prog 24 #[.string a, .string b] w fun e w' => e = .returned (.bool q) ∧ Below w.heap.size w w' :=
  (rFold_any a b w ha hb).mono fun e w' ⟨h1, h2⟩ => ⟨by rw [h1, h.out], h2⟩
/-- the names ahead of j are others -/
def KdRel (n : ByteArray) (W : World) (i : Value) (wr : World) : Prop := ∃ j : Nat, i = .int .i64 j ∧ 1 ≤ j ∧ j ≤ 5 ∧ (∀ i : Nat, 1 ≤ i → i < j → foldL n.data.toList (nameK i).data.toList = false) ∧ Below W.heap.size W wr
theorem kind_at {n : ByteArray} {j : Nat} (h1 : 1 ≤ j) (h5 : j ≤ 4) (hn : ∀ i : Nat, 1 ≤ i → i < j → foldL n.data.toList (nameK i).data.toList = false) (h : foldL n.data.toList (nameK j).data.toList = true) : kindN n = (j : Int) := by
  have k1 := hn 1; have k2 := hn 2; have k3 := hn 3
  unfold kindN
  obtain rfl | rfl | rfl | rfl : j = 1 ∨ j = 2 ∨ j = 3 ∨ j = 4 := by omega
  · have h' : foldL n.data.toList nmAcc.data.toList = true := h
    rw [if_pos h']; rfl
  · have k1' : foldL n.data.toList nmAcc.data.toList = false := k1 (by omega) (by omega)
    have h' : foldL n.data.toList nmLan.data.toList = true := h
    rw [if_neg (by rw [k1']; simp), if_pos h']; rfl
  · have k1' : foldL n.data.toList nmAcc.data.toList = false := k1 (by omega) (by omega)
    have k2' : foldL n.data.toList nmLan.data.toList = false := k2 (by omega) (by omega)
    have h' : foldL n.data.toList nmCha.data.toList = true := h
    rw [if_neg (by rw [k1']; simp), if_neg (by rw [k2']; simp), if_pos h']; rfl
  · have k1' : foldL n.data.toList nmAcc.data.toList = false := k1 (by omega) (by omega)
    have k2' : foldL n.data.toList nmLan.data.toList = false := k2 (by omega) (by omega)
    have k3' : foldL n.data.toList nmCha.data.toList = false := k3 (by omega) (by omega)
    have h' : foldL n.data.toList nmCod.data.toList = true := h
    rw [if_neg (by rw [k1']; simp), if_neg (by rw [k2']; simp), if_neg (by rw [k3']; simp), if_pos h']; rfl
theorem kind_no {n : ByteArray} (hn : ∀ i : Nat, 1 ≤ i → i < 5 → foldL n.data.toList (nameK i).data.toList = false) : kindN n = 0 := by
  have k1 : foldL n.data.toList nmAcc.data.toList = false := hn 1 (by omega) (by omega)
  have k2 : foldL n.data.toList nmLan.data.toList = false := hn 2 (by omega) (by omega)
  have k3 : foldL n.data.toList nmCha.data.toList = false := hn 3 (by omega) (by omega)
  have k4 : foldL n.data.toList nmCod.data.toList = false := hn 4 (by omega) (by omega)
  unfold kindN
  rw [if_neg (by rw [k1]; simp), if_neg (by rw [k2]; simp), if_neg (by rw [k3]; simp), if_neg (by rw [k4]; simp)]
theorem name_size (k : Int) : (nameK k).size ≤ 15 := by
  unfold nameK
  split
  · decide
  · split
    · decide
    · split
      · decide
      · split
        · decide
        · decide
theorem rKind_any (n : ByteArray) (w : World) (hn : n.size ≤ 4294967296) :
    Calls Tryz.prog 21 #[.string n] w fun e w' => e = .returned (.int .i64 (kindN n)) ∧ Below w.heap.size w w' := by
  go_enter Tryz.func21, Tryz.ntmps21
  go_wp2
  go_loopw [3] (fun i wr => KdRel n w i wr) (fun i _ => 5 - (intOf i).toNat)
  case atStart => exact ⟨1, rfl, Nat.le_refl _, by omega, fun i h1 h2 => by omega, Below.refl _ _⟩
  case round =>
    obtain ⟨j, rfl, h1, h5, hno, hbel⟩ := hrel
    have HNO := box hno
    have BL := box hbel
    clear hno hbel
    by_cases h4 : j ≤ 4
    · have h4i : (j : Int) ≤ 4 := by omega
      have hji : InI64 (j : Int) := ⟨by omega, by omega⟩
      obtain ⟨x, hx⟩ : ∃ x, nameK j = x := ⟨_, rfl⟩
      have HX := box hx
      have hxz : x.size ≤ 4294967296 := by have := name_size j; rw [hx] at this; omega
      clear hx
      cases hf : foldL n.data.toList x.data.toList with
      | true =>
        have HF := box hf
        have HV : Box (kindN n = (j : Int)) := box (kind_at h1 h4 HNO.out (by rw [HX.out]; exact hf))
        clear hf
        go_wp2_with fail
        refine (rName_is hji HX).mono ?_; rintro e w1 ⟨rfl, rfl⟩
        go_wp2_with fail
        refine (rFold13_is hn hxz HF).mono ?_; rintro e w2 ⟨rfl, hb2⟩
        have B2 := box (BL.out.trans (hb2.mono BL.out.size))
        clear hb2
        go_wp2
        go_ret
        exact ⟨by rw [HV.out]; rfl, B2.out⟩
      | false =>
        have HF := box hf
        have HN2 : Box (∀ i : Nat, 1 ≤ i → i < j + 1 → foldL n.data.toList (nameK i).data.toList = false) := box (fun i hi1 hi2 => by
          by_cases e : i = j
          · subst e; rw [HX.out]; exact HF.out
          · exact HNO.out i hi1 (by omega))
        clear hf
        go_wp2_with fail
        refine (rName_is hji HX).mono ?_; rintro e w1 ⟨rfl, rfl⟩
        go_wp2_with fail
        refine (rFold13_is hn hxz HF).mono ?_; rintro e w2 ⟨rfl, hb2⟩
        have B2 := box (BL.out.trans (hb2.mono BL.out.size))
        clear hb2
        go_wp2
        go_roundw
        case rel => exact ⟨j + 1, by go_num, by omega, by omega, HN2.out, B2.out⟩
        case measure => simp [intOf]; omega
    · have h4i : ¬ (j : Int) ≤ 4 := by omega
      have HV : Box (kindN n = 0) := box (kind_no fun i hi1 hi2 => HNO.out i hi1 (by omega))
      go_wp2
      go_ret
      exact ⟨by rw [HV.out]; rfl, BL.out⟩
end
section
open Go.RowKit
theorem rMatch_any (a b c d : ByteArray) (p q : Option Addr) (cp cq : Nat) (K L : List F) (w : World) (hk : K.length ≤ 65536) (hl : L.length ≤ 65536)
    (hzK : Box (∀ i (hi : i < K.length), K[i].1.size ≤ 65536 ∧ K[i].2.size ≤ 65536)) (hzL : Box (∀ i (hi : i < L.length), L[i].1.size ≤ 65536 ∧ L[i].2.size ≤ 65536)) (hK : Box (Fs w p K)) (hL : Box (Fs w q L)) :
    Calls Tryz.prog 117 #[.agg #[.string a, .string b, .slice p K.length cp], .agg #[.string c, .string d, .slice q L.length cq]] w fun e w' => e = .returned (.int .i64 (matchI (a, b, K) (c, d, L))) ∧ Below w.heap.size w w' := by
  by_cases h : (b.toList == [42]) = false ∧ (a.toList == c.toList) = true ∧ (b.toList == d.toList) = true
  · exact rMatch_late a b c d p q cp cq K L w hk hl hzK hzL hK hL _ rfl h.1 h.2.1 h.2.2
  · refine rMatch_early a b c d p q cp cq K L w 0 _ _ _ _ rfl rfl rfl rfl ?_
    rcases h2 : (b.toList == [42]) with _ | _
    · rcases h3 : (a.toList == c.toList) with _ | _
      · exact .inr (.inl rfl)
      · rcases h4 : (b.toList == d.toList) with _ | _
        · exact .inr (.inr (.inr rfl))
        · exact absurd ⟨h2, h3, h4⟩ h
    · exact .inr (.inr (.inl rfl))
end
section
open Go.RowKit
/-- what the function value of Remove has captured: a variable that holds the function value of named -/
def Cap (g2 g1 : Nat) (nm : ByteArray) (w : World) : Prop := w.cell? ⟨g2, 0, none⟩ = some (nmV g1) ∧ Nm g1 nm w
theorem Cap.below {w w' : World} {g2 g1 : Nat} {nm : ByteArray} (h : Cap g2 g1 nm w) (hb : Below w.heap.size w w') : Cap g2 g1 nm w' := ⟨(hb.cell (cell_lt h.1)).trans h.1, h.2.below hb⟩
end
section
open Go.RowKit
theorem add_at (g off j : Nat) : (⟨g, off, none⟩ : Addr).add j = ⟨g, off + j, none⟩ := by
  unfold Addr.add; split <;> simp_all
/-- the cells of a list of fields, out of memory -/
theorem Fs.news {w : World} {ad : Addr} {M : List F} (h : Fs w (some ad) M) : ∀ j u, (cellsF M)[j]? = some u → w.cell? (ad.add j) = some u := by
  intro j u hj
  have hlen := (List.getElem?_eq_some_iff.mp hj).1
  rw [cellsF_len] at hlen
  have hi : j / 2 < M.length := by omega
  obtain ⟨g, off, e, c0, c1⟩ := h (j / 2) hi
  obtain ⟨q0, q1⟩ := cellsF_at M (j / 2) hi
  cases e
  rw [add_at]
  rcases Nat.mod_two_eq_zero_or_one j with r | r
  · have ej : j = j / 2 * 2 := by omega
    rw [← ej] at q0 c0
    rw [q0] at hj; cases hj; exact c0
  · have ej : j = j / 2 * 2 + 1 := by omega
    rw [← ej] at q1
    rw [Nat.add_assoc, ← ej] at c1
    rw [q1] at hj; cases hj; exact c1
theorem cellsF_one (M : List F) : ∀ u ∈ cellsF M, u.oneCell' = true := by
  intro u hu
  obtain ⟨p, _, hp⟩ := List.mem_flatMap.mp hu
  simp at hp; rcases hp with rfl | rfl <;> rfl
/-- append of a list of fields -/
theorem wpList_append_flds (w : World) {ops : Array Oper} {rest : List Oper} {o : Oper} {a : Act} {Q : Exit → Act → World → Prop} (hgd : o.guard = none) (s x : Operand)
    (ho : o.op = .call { callee := .builtin .append, args := #[s, x], argTypes := #[25, 25] })
    (B : Nat) (v : Value) (L M : List F) (hs : a.eval s = v) (hown : OwnF w B v L)
    (ad : Option Addr) (c : Nat) (hx : a.eval x = .slice ad M.length c) (hn : ad = none → c = 0) (hM : Fs w ad M) (hl : L.length ≤ 65536) (hm : M.length ≤ 65536) (hB : B ≤ w.heap.size)
    (h : ∀ v' w', OwnF w' B v' (L ++ M) → Below B w w' → wpList Tryz.prog ops Q rest (a.put o.dst v') w') : wpList Tryz.prog ops Q (o :: rest) a w := by
  obtain ⟨i0, hi0, hz0, hz1, hz2⟩ := info_parts info_fld
  rcases ad with _ | ad
  · have hc := hn rfl
    subst hc
    have he : M = [] := by
      rcases M with _ | ⟨p, M⟩
      · rfl
      · obtain ⟨g, off, e, _⟩ := hM 0 (by simp)
        cases e
    subst he
    rw [List.append_nil] at h
    exact wpList_append_own_none (P := Tryz.prog) hgd s x 25 ho B 46 i0 2 Tryz.underlying25 hi0 v L.length (cellsF L) hs hown hx (h v w hown (Below.refl _ _))
  · refine wpList_append_own (P := Tryz.prog) w hgd s x 25 ho B 46 i0 _ 2 32 Tryz.underlying25 hi0 hz0 hz1 hz2 rfl (by decide) v L.length (cellsF L) hs hown ad M.length c (cellsF M) hx (cellsF_len M) hM.news (cellsF_one M) (by unfold maxLen; omega) (by omega) hB ?_
    intro v' w' q1 q2 _
    refine h v' w' (by simpa [OwnF, cellsF_app] using q1) ((Below.refl _ _).grown q2 hB (fun k hk => own_block hown k hk))
theorem OwnF.empty (w : World) : OwnF (w.alloc (.cells #[] 46)) w.heap.size (.slice (some ⟨w.heap.size, 0, none⟩) 0 0) [] :=
  ⟨rfl, .inr ⟨_, _, _, rfl, Nat.le_refl _, heap_alloc_new w _, Nat.zero_le _, by unfold maxLen; omega, rfl, rfl⟩⟩
end
section
open Go.RowKit
/-- append of one string, at a step of a region that draws its order -/
theorem step_append_str (w : World) {ops : Array Oper} {o : Oper} {a : Act} {K : Act → World → Prop} {Q : Exit → Act → World → Prop} {E : Prop} (hgd : o.guard = none) (s x : Operand)
    (ho : o.op = .call { callee := .builtin .append, args := #[s, x], argTypes := #[22, 22] })
    (B : Nat) (v : Value) (L : List ByteArray) (hs : a.eval s = v) (hown : OwnS w B v L)
    (g : Nat) (c : Nat) (hx : a.eval x = .slice (some ⟨g, 0, none⟩) 1 c) (u : ByteArray) (h0 : w.cell? ⟨g, 0, none⟩ = some (.string u)) (hl : L.length ≤ 65536) (hB : B ≤ w.heap.size)
    (h : ∀ v' w', OwnS w' B v' (L ++ [u]) → Below B w w' → K (a.put o.dst v') w') :
    if Region.wanted o (yielded ops a.tmps) = true then Oper.wp Tryz.prog o a w K Q else E := by
  obtain ⟨i0, hi0, hz0, hz1, hz2⟩ := info_parts info_str
  refine step_append_lies (P := Tryz.prog) w hgd s x 22 ho B 9 i0 _ 1 16 Tryz.underlying22 hi0 hz0 hz1 hz2 rfl (by decide) v L.length (L.map Value.string) hs hown ⟨g, 0, none⟩ 1 c [.string u] hx rfl ?_ ?_ (by omega) (by unfold maxLen; omega) (by omega) hB _ rfl ?_
  · intro j u hj
    match j, hj with
    | 0, hj => simp at hj; subst hj; simpa [Addr.add] using h0
  · intro u hu; simp at hu; subst hu; rfl
  · intro g' cap' w' q1 q2 _ _
    refine h _ w' (by simpa [OwnS] using q1) ((Below.refl _ _).grown q2 hB (fun k hk => own_block hown k hk))
theorem OwnS.drewN {w : World} {B n : Nat} {v : Value} {L : List ByteArray} (h : OwnS w B v L) : OwnS (w.drewN n) B v L := own_below h (below_drewN _ _)
theorem size_more11 (w : World) (o : Obj) : w.heap.size ≤ (w.alloc o).heap.size := ((Below.refl w.heap.size w).alloc (Nat.le_refl _) o).size
theorem cell_new1 (w : World) (u : Value) (t : TypeId) : (w.alloc (.cells #[u] t)).cell? ⟨w.heap.size, 0, none⟩ = some u := by rw [World.cell?_alloc_mark]; rfl
def subB (l : List UInt8) : List ByteArray := (subL l).map bs
/-- what has been cut off, and what is left -/
def SbRel (l : List UInt8) (B : Nat) (w : World) (s out : Value) (wr : World) : Prop :=
  ∃ (t : ByteArray) (acc : List ByteArray), s = .string t ∧ OwnS wr B out acc ∧ acc ++ subB t.data.toList = subB l ∧ t.size ≤ l.length ∧ acc.length + t.size ≤ l.length ∧ Below w.heap.size w wr
def strLen : Value → Nat
  | .string s => s.size
  | _ => 0
theorem sub_left {t : ByteArray} (h : Lib.indexByte t.data.toList 45 = -1) : subB t.data.toList = [t] := by
  have hn : (45 : UInt8) ∉ t.data.toList := by
    have := (cut_no h).2.2
    simpa [cutB] using this
  unfold subB; rw [sub_no hn]; rfl
theorem sub_step {t : ByteArray} {o : Nat} (h : Lib.indexByte t.data.toList 45 = (o : Int)) : subB t.data.toList = t.extract 0 o :: subB (t.extract (o + 1) t.size).data.toList := by
  obtain ⟨h1, h2, h3, h4⟩ := cut_at h
  have hz : t.data.toList.length = t.size := by simp
  have hn : (45 : UInt8) ∉ t.data.toList.take o := by
    rw [← h2]; unfold cut1
    intro hm
    have := List.all_eq_true.1 (List.all_takeWhile (p := (· != (45 : UInt8))) (l := t.data.toList)) 45 hm
    simp at this
  have e : t.data.toList = t.data.toList.take o ++ 45 :: t.data.toList.drop (o + 1) := by
    have h5 := cut_join h4
    rwa [h2, h3] at h5
  have e2 : (t.extract (o + 1) t.size).data.toList = t.data.toList.drop (o + 1) := by rw [ext_bs, bs_toList, List.take_of_length_le (by omega)]
  rw [e2]
  unfold subB
  conv => lhs; rw [e]
  rw [sub_at hn, ext_bs, List.drop_zero]; rfl
theorem rIndex45_is {s : ByteArray} {n : Int} {w : World} (hs : s.size ≤ maxLen) (h : Box (idxF s.data.toList 45 0 = n)) :
    Calls Tryz.prog 85 #[.string s, .int .u8 45, .int .i64 0] w fun e w' => e = .returned (.int .i64 n) ∧ w = w' :=
  (rIndex_any s 45 45 0 w hs (Nat.zero_le _) rfl).mono fun e w' ⟨h1, h2⟩ => ⟨by rw [h1, h.out], h2⟩
set_option maxHeartbeats 1000000 in
theorem rSubs_any (s : ByteArray) (w : World) (hs : s.size ≤ 65000) :
    Calls Tryz.prog 114 #[.string s] w fun e w' => ∃ v, e = .returned v ∧ OwnS w' w.heap.size v (subB s.data.toList) ∧ Below w.heap.size w w' := by
  have hz : s.data.toList.length = s.size := by simp
  obtain ⟨l, hl⟩ : ∃ l, s.data.toList = l := ⟨_, rfl⟩
  have hll : l.length ≤ 65000 := by rw [← hl]; omega
  have HL := box hl
  rw [hl] at hz ⊢
  clear hl
  go_enter Tryz.func114, Tryz.ntmps114
  go_wp2
  go_loopw [0, 3, 4] (fun s out _ wr => SbRel l w.heap.size w s out wr) (fun s _ _ _ => strLen s)
  case atStart => exact ⟨s, [], rfl, OwnS.nil _ _, by rw [HL.out]; rfl, by omega, by simp; omega, Below.refl _ _⟩
  case round =>
    obtain ⟨t, acc, rfl, hO, hq, hts, hac, hb⟩ := hrel
    obtain ⟨av, cv, rfl, _, _⟩ := hO.ss
    have O := box hO
    have BL := box hb
    have HQ := box hq
    have hbs := hb.size
    have htm : t.size ≤ maxLen := by unfold maxLen; omega
    have hz2 : t.data.toList.length = t.size := by simp
    clear hO hb hq
    by_cases hi : idxF t.data.toList 45 0 < 0
    · have h1 := idxF_none hi
      rw [List.drop_zero] at h1
      have HS : Box (acc ++ [t] = subB l) := box (by rw [← HQ.out, sub_left h1])
      obtain ⟨n, hn⟩ : ∃ n, idxF t.data.toList 45 0 = n := ⟨_, rfl⟩
      have HN := box hn
      rw [hn] at hi
      clear h1 hn
      go_wp2_with fail
      refine (rIndex45_is htm HN).mono ?_; rintro e w1 ⟨rfl, rfl⟩
      go_wp2_with (at_builtin; refine wpList_append_str _ rfl (.tmp 9) (.tmp 11) rfl w.heap.size _ acc rfl (own_below O.out (below_new _ _)) _ _ rfl t (cell_new1 _ _ _) (by omega) (by simp; omega) ?_)
      intro v2 w2 hO2 hb2
      rw [HS.out] at hO2
      have O2 := box hO2
      have B2 := box ((BL.out.alloc hbs _).trans hb2)
      clear hO2 hb2
      go_wp2
      go_ret
      exact ⟨_, rfl, O2.out, B2.out⟩
    · obtain ⟨o, h1, h2, h3⟩ := idxF_some hi
      rw [List.drop_zero] at h1
      rw [Nat.zero_add] at h2 h3
      have ho : o < t.size := by omega
      have HS : Box (acc ++ [t.extract 0 o] ++ subB (t.extract (o + 1) t.size).data.toList = subB l) := box (by rw [← HQ.out, sub_step h1, List.append_assoc]; rfl)
      have hez : (t.extract (o + 1) t.size).size = t.size - (o + 1) := by rw [ByteArray.size_extract]; omega
      have HN := box h2
      have hoi : (o : Int) ≤ (t.size : Int) := by omega
      have ho0 : (0 : Int) ≤ (o : Int) := by omega
      have ho2 : (o : Int) + 1 ≤ (t.size : Int) := by omega
      have ho1 : (0 : Int) ≤ (o : Int) + 1 := by omega
      have hwr : IntKind.i64.wrap ((o : Int) + 1) = (o : Int) + 1 := by simp [IntKind.wrap, IntKind.bits, IntKind.signed]; omega
      clear h1 h2 hi h3
      go_wp2_with fail
      refine (rIndex45_is htm HN).mono ?_; rintro e w1 ⟨rfl, rfl⟩
      go_wp2
      go_region_held3 (fun w' => True) (first | trivial) (first | (refine step_append_str _ rfl (.tmp 13) (.tmp 17) (by rfl) w.heap.size _ acc (by rfl) ?_ _ _ (by rfl) (t.extract 0 o) ?_ ?_ ?_ ?_; (exact own_below (OwnS.drewN O.out) (below_new _ _)); (exact cell_new1 _ _ _); omega; (exact Nat.le_trans hbs (size_more11 _ _)); intro v4 w4 hO4 hb4; have O4 := box hO4; have B4 := box (((BL.out.trans ((below_drewN _ _).mono BL.out.size)).alloc hbs _).trans hb4); clear hO4 hb4))
      all_goals
        go_wp2
        go_roundw
        case rel => exact ⟨_, _, rfl, O4.out, HS.out, by omega, by simp; omega, B4.out⟩
        case measure => simp [strLen]; omega
end
end Go.Proofs.YtjjlgnackjjbfaaGreatDoor.Asc
