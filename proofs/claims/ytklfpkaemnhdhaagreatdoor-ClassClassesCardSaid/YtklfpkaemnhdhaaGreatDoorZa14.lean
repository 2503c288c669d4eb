/- Merged texts: RnkLvl RnkLev RnkBin RnkIns RnkPut RnkQua RnkMine VarSet VarRule VarVal. -/
import Derived.Test.YtklfpkaemnhdhaaGreatDoorZa03
import Derived.Test.YtklfpkaemnhdhaaGreatDoorZa04
import Derived.Test.YtklfpkaemnhdhaaGreatDoorZa06
import Derived.Test.YtklfpkaemnhdhaaGreatDoorZa08
import Derived.Test.YtklfpkaemnhdhaaGreatDoorZa09
import Derived.Test.YtklfpkaemnhdhaaGreatDoorZa10
import Derived.Test.YtklfpkaemnhdhaaGreatDoorZa11
import Derived.Test.YtklfpkaemnhdhaaGreatDoorZa12
import Derived.Test.YtklfpkaemnhdhaaGreatDoorZa13
import Derived.Deep.AppendLies
import Derived.Deep.RegionLaw
import Derived.Deep.Slices
import Derived.Handy
import Derived.Laws.Externs
import Derived.Laws.NewBlocks
import Derived.Lib.AppendZerosOnto
import Derived.Lib.Overlaps
import Derived.Maps.OwnSet
set_option linter.unusedVariables false
set_option linter.unusedSimpArgs false
set_option maxRecDepth 100000
namespace Go.Proofs.YtklfpkaemnhdhaaGreatDoor.Asc
section
abbrev LV := Int × List ByteArray
def insV (p : Int) (x : ByteArray) : List LV → List LV
  | [] => [(p, [x])]
  | t :: r => if t.1 < p then (p, [x]) :: t :: r else if t.1 = p then (t.1, t.2 ++ [x]) :: r else t :: insV p x r
def DescV : List LV → Prop
  | [] => True
  | t :: r => (∀ s ∈ r, s.1 < t.1) ∧ DescV r
def flatV (l : List LV) : List ByteArray := l.flatMap (·.2)
def GoodV (q : ByteArray → Int) (l : List LV) : Prop := ∀ t ∈ l, t.2 ≠ [] ∧ ∀ y ∈ t.2, q y = t.1
def stepV (q : ByteArray → Int) (acc : List LV) (v : ByteArray) : List LV := if 0 < q v then insV (q v) v acc else acc
def rankV (q : ByteArray → Int) (V : List ByteArray) : List LV := V.foldl (stepV q) []
theorem insV_mem {p : Int} {x : ByteArray} {s : LV} : ∀ {l : List LV}, s ∈ insV p x l → s.1 = p ∨ s ∈ l
  | [], h => by simp [insV] at h; exact .inl (by rw [h])
  | t :: r, h => by
    unfold insV at h
    split at h
    · rcases List.mem_cons.1 h with h | h
      · exact .inl (by rw [h])
      · exact .inr h
    · split at h
      · rename_i he
        rcases List.mem_cons.1 h with h | h
        · exact .inl (by rw [h]; exact he)
        · exact .inr (by simp [h])
      · rcases List.mem_cons.1 h with h | h
        · exact .inr (by simp [h])
        · rcases insV_mem h with h | h
          · exact .inl h
          · exact .inr (by simp [h])
theorem insV_desc {p : Int} {x : ByteArray} : ∀ {l : List LV}, DescV l → DescV (insV p x l)
  | [], _ => ⟨fun s hs => (by cases hs), trivial⟩
  | t :: r, h => by
    unfold insV
    split
    · rename_i hlt
      refine ⟨fun s hs => ?_, h⟩
      rcases List.mem_cons.1 hs with rfl | hs
      · exact hlt
      · exact Int.lt_trans (h.1 s hs) hlt
    · split
      · exact ⟨h.1, h.2⟩
      · rename_i h1 h2
        refine ⟨fun s hs => ?_, insV_desc h.2⟩
        rcases insV_mem hs with e | hs
        · omega
        · exact h.1 s hs
theorem insV_good {q : ByteArray → Int} {p : Int} {x : ByteArray} (hx : q x = p) : ∀ {l : List LV}, GoodV q l → GoodV q (insV p x l)
  | [], _ => fun t ht => by
    simp [insV] at ht; subst ht
    exact ⟨by simp, fun y hy => by simp at hy; rw [hy]; exact hx⟩
  | t :: r, h => by
    unfold insV
    split
    · intro s hs
      rcases List.mem_cons.1 hs with rfl | hs
      · exact ⟨by simp, fun y hy => by simp at hy; rw [hy]; exact hx⟩
      · exact h s hs
    · split
      · rename_i he
        intro s hs
        rcases List.mem_cons.1 hs with rfl | hs
        · refine ⟨by simp, fun y hy => ?_⟩
          rcases List.mem_append.1 hy with hy | hy
          · exact (h t (by simp)).2 y hy
          · simp at hy; rw [hy, hx]; exact he.symm
        · exact h s (by simp [hs])
      · intro s hs
        rcases List.mem_cons.1 hs with rfl | hs
        · exact h s (by simp)
        · exact insV_good hx (fun t ht => h t (by simp [ht])) s hs
section
variable {q : ByteArray → Int}
theorem insR_front {x : ByteArray} : ∀ {A B : List ByteArray}, (∀ y ∈ A, q x ≤ q y) → insR q x (A ++ B) = A ++ insR q x B
  | [], B, _ => rfl
  | y :: A, B, h => by
    show insR q x (y :: (A ++ B)) = y :: (A ++ insR q x B)
    have := h y (by simp)
    rw [insR, if_neg (by omega), insR_front (fun z hz => h z (by simp [hz]))]
theorem insR_first {x : ByteArray} : ∀ {B : List ByteArray}, (∀ y ∈ B, q y < q x) → insR q x B = x :: B
  | [], _ => rfl
  | y :: B, h => by rw [insR, if_pos (h y (by simp))]
theorem flat_ins {p : Int} {x : ByteArray} (hx : q x = p) : ∀ {l : List LV}, DescV l → GoodV q l → flatV (insV p x l) = insR q x (flatV l)
  | [], _, _ => rfl
  | t :: r, h, hg => by
    have hall : ∀ s ∈ r, ∀ y ∈ s.2, q y = s.1 ∧ s.1 < t.1 := fun s hs y hy => ⟨(hg s (by simp [hs])).2 y hy, h.1 s hs⟩
    have ht : ∀ y ∈ t.2, q y = t.1 := (hg t (by simp)).2
    have hfl : ∀ y ∈ flatV r, q y < t.1 := fun y hy => by
      obtain ⟨s, hs, hy⟩ := List.mem_flatMap.1 hy
      have := hall s hs y hy; omega
    unfold insV
    split
    · rename_i hlt
      show x :: flatV (t :: r) = _
      rw [insR_first]
      intro y hy
      rcases List.mem_append.1 (show y ∈ t.2 ++ flatV r from hy) with hy | hy
      · have := ht y hy; omega
      · have := hfl y hy; omega
    · split
      · rename_i he
        show (t.2 ++ [x]) ++ flatV r = insR q x (t.2 ++ flatV r)
        rw [insR_front (fun y hy => by have := ht y hy; omega), insR_first (fun y hy => by have := hfl y hy; omega)]
        simp
      · rename_i h1 h2
        show t.2 ++ flatV (insV p x r) = insR q x (t.2 ++ flatV r)
        rw [insR_front (fun y hy => by have := ht y hy; omega), flat_ins hx h.2 (fun s hs => hg s (by simp [hs]))]
theorem rankV_next {V : List ByteArray} {j : Nat} (h : j < V.length) : rankV q (V.take (j + 1)) = stepV q (rankV q (V.take j)) V[j] := by
  unfold rankV
  rw [List.take_succ_eq_append_getElem h, List.foldl_append]; rfl
theorem rankV_all : ∀ (n : Nat) (V : List ByteArray), V.length = n → DescV (rankV q V) ∧ GoodV q (rankV q V) ∧ flatV (rankV q V) = rankQ q V
  | 0, V, h => by
    have : V = [] := List.length_eq_zero_iff.1 h
    subst this
    exact ⟨trivial, fun t ht => (by cases ht), rfl⟩
  | n + 1, V, h => by
    obtain ⟨W, x, rfl⟩ : ∃ W x, V = W ++ [x] := by
      have hne : V ≠ [] := by intro e; subst e; simp at h
      exact ⟨V.dropLast, V.getLast hne, (List.dropLast_concat_getLast hne).symm⟩
    obtain ⟨i1, i2, i3⟩ := rankV_all n W (by simpa using h)
    have e : rankV q (W ++ [x]) = stepV q (rankV q W) x := by unfold rankV; rw [List.foldl_append]; rfl
    rw [e, rank_snoc]
    unfold stepV stepR
    by_cases hx : 0 < q x
    · rw [if_pos hx, if_pos hx]
      exact ⟨insV_desc i1, insV_good rfl i2, by rw [flat_ins rfl i1 i2, i3]⟩
    · rw [if_neg hx, if_neg hx]
      exact ⟨i1, i2, i3⟩
end
/-- the levels ahead are greater -/
theorem insV_behind {p : Int} {x : ByteArray} : ∀ {A B : List LV}, (∀ t ∈ A, p < t.1) → insV p x (A ++ B) = A ++ insV p x B
  | [], B, _ => rfl
  | t :: A, B, h => by
    show insV p x (t :: (A ++ B)) = t :: (A ++ insV p x B)
    have := h t (by simp)
    rw [insV, if_neg (by omega), if_neg (by omega), insV_behind (fun z hz => h z (by simp [hz]))]
theorem insV_new {p : Int} {x : ByteArray} : ∀ {B : List LV}, (∀ t ∈ B, t.1 < p) → insV p x B = (p, [x]) :: B
  | [], _ => rfl
  | t :: B, h => by rw [insV, if_pos (h t (by simp))]
theorem insV_old {p : Int} {x : ByteArray} {vs : List ByteArray} {B : List LV} : insV p x ((p, vs) :: B) = (p, vs ++ [x]) :: B := by
  rw [insV, if_neg (by omega), if_pos rfl]
theorem descV_at : ∀ {l : List LV}, DescV l → ∀ i j (hi : i < l.length) (hj : j < l.length), i < j → l[j].1 < l[i].1
  | t :: r, h, 0, j + 1, _, hj, _ => h.1 _ (List.getElem_mem _)
  | t :: r, h, i + 1, j + 1, hi, hj, hij => by
    have := descV_at h.2 i j (by simpa using hi) (by simpa using hj) (by omega)
    exact this
theorem flatV_len {V : List ByteArray} {q : ByteArray → Int} : (flatV (rankV q V)).length ≤ V.length := by
  rw [(rankV_all V.length V rfl).2.2, rank_len]
  exact List.countP_le_length
theorem rankV_len {V : List ByteArray} {q : ByteArray → Int} : (rankV q V).length ≤ V.length := by
  refine Nat.le_trans ?_ (flatV_len (q := q))
  have hg := (rankV_all (q := q) V.length V rfl).2.1
  generalize rankV q V = l at hg
  induction l with
  | nil => simp
  | cons t r ih =>
    have h1 := ih (fun s hs => hg s (by simp [hs]))
    have h2 : 0 < t.2.length := List.length_pos_iff.2 (hg t (by simp)).1
    have e : flatV (t :: r) = t.2 ++ flatV r := rfl
    rw [e, List.length_append, List.length_cons]; omega
end
section
open Go.RowKit
/-- a level in memory: its quality, the slice of its values, the values -/
abbrev TL := Int × Value × List ByteArray
def plT (T : List TL) : List LV := T.map fun t => (t.1, t.2.2)
def cellsT (T : List TL) : List Value := T.flatMap fun t => [.int .i64 t.1, t.2.1]
theorem cellsT_len (T : List TL) : (cellsT T).length = T.length * 2 := by
  induction T with
  | nil => rfl
  | cons p T ih => simp only [cellsT, List.flatMap_cons, List.length_append, List.length_cons, List.length_nil] at *; omega
theorem cellsT_app (T U : List TL) : cellsT (T ++ U) = cellsT T ++ cellsT U := by simp [cellsT]
theorem cellsT_cons (t : TL) (T : List TL) : cellsT (t :: T) = .int .i64 t.1 :: t.2.1 :: cellsT T := rfl
theorem cellsT_at (T : List TL) (i : Nat) (h : i < T.length) : (cellsT T)[i * 2]? = some (.int .i64 T[i].1) ∧ (cellsT T)[i * 2 + 1]? = some T[i].2.1 := by
  have e : T = T.take i ++ T[i] :: T.drop (i + 1) := by rw [← List.drop_eq_getElem_cons h, List.take_append_drop]
  have hl : (cellsT (T.take i)).length = i * 2 := by rw [cellsT_len, List.length_take, Nat.min_eq_left (Nat.le_of_lt h)]
  have e2 : cellsT T = cellsT (T.take i) ++ (.int .i64 T[i].1 :: T[i].2.1 :: cellsT (T.drop (i + 1))) := by
    conv => lhs; rw [e, cellsT_app]
    rfl
  rw [e2]
  constructor
  · rw [List.getElem?_append_right (by omega), hl]; simp
  · rw [List.getElem?_append_right (by omega), hl]; simp
theorem info_lev : (Tryz.prog.info? 142).map (fun i => (i.zero, i.size, i.bytes)) = some (some (.agg #[.int .i64 0, .slice none 0 0]), 2, 32) := by kernel_rfl
def OwnTL (w : World) (B : Nat) (v : Value) (T : List TL) : Prop := w.ownsRow B 142 2 v T.length (cellsT T)
def Apart (s t : TL) : Prop := ∀ k, s.2.1.ownBlock = some k → t.2.1.ownBlock ≠ some k
/-- the levels, all of them from block B on -/
structure Lev (w : World) (B : Nat) (v : Value) (T : List TL) : Prop where
  row : OwnTL w B v T
  vals : ∀ t ∈ T, OwnS w B t.2.1 t.2.2
  apart : T.Pairwise Apart
theorem Apart.symm {s t : TL} (h : Apart s t) : Apart t s := fun k h1 h2 => h k h2 h1
section
variable {w w' : World} {B : Nat} {v : Value} {T : List TL}
theorem Lev.nil (w : World) (B : Nat) : Lev w B (.slice none 0 0) [] := ⟨World.ownsRow_nil _ _ _ _, fun t ht => (by cases ht), List.Pairwise.nil⟩
theorem Lev.below (h : Lev w B v T) (hb : Below w.heap.size w w') : Lev w' B v T := ⟨own_below h.row hb, fun t ht => own_below (h.vals t ht) hb, h.apart⟩
/-- levels at an address -/
def Ts (w : World) (a : Option Addr) (T : List TL) : Prop :=
  ∀ i (h : i < T.length), ∃ g off, a = some ⟨g, off, none⟩ ∧ w.cell? ⟨g, off + i * 2, none⟩ = some (.int .i64 T[i].1) ∧ w.cell? ⟨g, off + i * 2 + 1, none⟩ = some T[i].2.1
theorem Ts.below {a : Option Addr} (h : Ts w a T) (hb : Below w.heap.size w w') : Ts w' a T := fun i hi => by
  obtain ⟨g, off, e, c0, c1⟩ := h i hi
  exact ⟨g, off, e, (hb.cell (cell_lt c0)).trans c0, (hb.cell (cell_lt c1)).trans c1⟩
theorem OwnTL.ts (h : OwnTL w B v T) : ∃ a cap, v = .slice a T.length cap ∧ Ts w a T ∧ T.length ≤ cap := by
  rcases h.2 with ⟨rfl, hn⟩ | ⟨g, cap, cur, rfl, hB, hg, hc, hm, hs, ht⟩
  · exact ⟨none, 0, by rw [hn], fun i hi => by omega, by omega⟩
  · refine ⟨_, cap, rfl, fun i hi => ⟨g, 0, rfl, ?_, ?_⟩, hc⟩
    all_goals
      obtain ⟨q0, q1⟩ := cellsT_at T i hi
      rw [← ht] at q0 q1
      rw [List.getElem?_take] at q0 q1
      rw [if_pos (by omega)] at q0 q1
      simp only [World.cell?, hg]
    · simpa using q0
    · simpa [Nat.add_assoc] using q1
/-- a slice of strings is written out -/
theorem Lev.slice (h : Lev w B v T) {t : TL} (ht : t ∈ T) : ∃ a cap, t.2.1 = .slice a t.2.2.length cap ∧ Ss w a t.2.2 ∧ t.2.2.length ≤ cap := (h.vals t ht).ss
/-- the row lies in another block than the strings -/
theorem lev_ne {L : List ByteArray} {s : Value} (h : OwnTL w B v T) (h2 : OwnS w B s L) {k : Nat} (hk : v.ownBlock = some k) : s.ownBlock ≠ some k := by
  intro hs
  rcases h.2 with ⟨rfl, _⟩ | ⟨g, cap, cur, rfl, hB, hg, _⟩
  · simp [Value.ownBlock] at hk
  · rcases h2.2 with ⟨rfl, _⟩ | ⟨g2, cap2, cur2, rfl, hB2, hg2, _⟩
    · simp [Value.ownBlock] at hs
    · simp [Value.ownBlock] at hk hs
      subst hk; subst hs
      rw [hg] at hg2
      have := (Option.some.inj hg2)
      injection this with _ e _
      exact absurd e (by decide)
end
/-- append of a slice of strings -/
theorem wpList_append_strs (w : World) {ops : Array Oper} {rest : List Oper} {o : Oper} {a : Act} {Q : Exit → Act → World → Prop} (hgd : o.guard = none) (s x : Operand)
    (ho : o.op = .call { callee := .builtin .append, args := #[s, x], argTypes := #[29, 29] })
    (B : Nat) (v : Value) (L : List ByteArray) (hs : a.eval s = v) (hown : OwnS w B v L)
    (M : List ByteArray) (p : Addr) (n c : Nat) (hx : a.eval x = .slice (some p) n c) (hn : M.length = n) (hM : Ss w (some p) M) (h0 : 0 < n) (hl : L.length ≤ 65536) (hl2 : n ≤ 65536) (hB : B ≤ w.heap.size)
    (h : ∀ v' w', OwnS w' B v' (L ++ M) → Below B w w' → wpList Tryz.prog ops Q rest (a.put o.dst v') w') : wpList Tryz.prog ops Q (o :: rest) a w := by
  obtain ⟨i0, hi0, hz0, hz1, hz2⟩ := info_parts info_str
  refine wpList_append_own (P := Tryz.prog) w hgd s x 29 ho B 9 i0 _ 1 16 Tryz.underlying29 hi0 hz0 hz1 hz2 rfl (by decide) v L.length (L.map Value.string) hs hown p n c (M.map Value.string) hx (by simp [hn]) ?_ ?_ (by unfold maxLen; omega) (by omega) hB ?_
  · intro j u hj
    have hjl : j < M.length := by
      rcases Nat.lt_or_ge j M.length with h | h
      · exact h
      · rw [List.getElem?_eq_none (by simpa using h)] at hj; cases hj
    obtain ⟨g, off, e, c0⟩ := hM j hjl
    cases e
    simp [hjl] at hj
    subst hj
    rw [Addr.add_lit]; exact c0
  · intro u hu
    obtain ⟨y, _, rfl⟩ := List.mem_map.1 hu
    rfl
  · intro v' w' q1 q2 _
    refine h v' w' (by simpa [OwnS, hn] using q1) ((Below.refl _ _).grown q2 hB (fun k hk => own_block hown k hk))
/-- copy into a row, elements of any number of cells -/
theorem run_copy_rowN {P : Program} (w : World) (dT sT ty elem : TypeId) (size n : Nat) (g o dLen dCap : Nat) (a : Addr) (sLen sCap : Nat) (cur : Array Value) (t : TypeId) (cs : List Value)
    (hu : P.underlying dT = some (.slice elem)) (hs : (P.info? elem).map (·.size) = some size)
    (hg : w.heap[g]? = some (.cells cur t (0, 0))) (hn : n = Nat.min sLen dLen) (hl : cs.length = n * size)
    (hsrc : ∀ j v, cs[j]? = some v → w.cell? (a.add j) = some v) (hfit : o + cs.length ≤ cur.size) (h1 : ∀ v ∈ cs, v.oneCell' = true) :
    (Builtin.copy_ #[dT, sT] ty #[.slice (some ⟨g, o, none⟩) dLen dCap, .slice (some a) sLen sCap]).run P w =
      .ok (goInt n) (w.setRow g (cur.toList.take o ++ cs ++ cur.toList.drop (o + cs.length)).toArray) := by
  have hst := run_storeCells_at P g o t cs 0 cur w hg (by simpa using hfit) h1
  have hf := run_firstCells_some (P := P) w size n a sLen sCap cs hl hsrc
  cases hq : P.info? elem with
  | none => simp [hq] at hs
  | some i =>
    have hi : i.size = size := by simpa [hq] using hs
    simp [Builtin.copy_, run_underlying hu, Builtin.lenOf, sizeOf, typeInfo, hq, hi, ← hn, hf, hst]
section
variable {P : Program}
theorem wp_copy_run14 (w : World) {o : Oper} {a : Act} {K : Act → World → Prop} {Q : Exit → Act → World → Prop} (d s : Operand) (t t' : TypeId)
    (ho : o.op = .call { callee := .builtin .copy, args := #[d, s], argTypes := #[t, t'] }) (v u : Value) (hd : a.eval d = v) (hs : a.eval s = u) {v' : Value} {w' : World}
    (hr : (Builtin.copy_ #[t, t'] o.type #[v, u]).run P w = .ok v' w') (h : K (a.put o.dst v') w') : o.wp P a w K Q := by
  unfold Oper.wp execOp
  simp only [ho, resolve, invoke, builtin, Sem.run_bind, Sem.run_pure, Result.andThen_ok, List.map_toArray, List.map_cons, List.map_nil, hd, hs, hr]
  exact h
theorem step_copy_run14 {ops : Array Oper} {o : Oper} {a : Act} {w : World} {K : Act → World → Prop} {Q : Exit → Act → World → Prop} {E : Prop}
    (hg : o.guard = none) (d x : Operand) (dT sT : TypeId) (hop : o.op = Op.call { callee := Callee.builtin Builtin.copy, args := #[d, x], argTypes := #[dT, sT] })
    (v u : Value) (hd : a.eval d = v) (hx : a.eval x = u) {v' : Value} {w' : World} (hr : (Builtin.copy_ #[dT, sT] o.type #[v, u]).run P w = .ok v' w') (hK : K (a.put o.dst v') w') :
    if Region.wanted o (yielded ops a.tmps) = true then Oper.wp P o a w K Q else E := by
  have hw : Region.wanted o (yielded ops a.tmps) = true := by simp [Region.wanted, hg]
  rw [if_pos hw]
  exact wp_copy_run14 w d x dT sT hop v u hd hx hr hK
end
end
section
open Go.RowKit
def cmpC (a b : Int) : Int := if a < b then -1 else if b < a then 1 else 0
theorem cmpC_lt {a b : Int} (h : a < b) : cmpC a b = -1 := by unfold cmpC; rw [if_pos h]
theorem cmpC_gt {a b : Int} (h : b < a) : cmpC a b = 1 := by unfold cmpC; rw [if_neg (by omega), if_pos h]
theorem cmpC_eq (a : Int) : cmpC a a = 0 := by unfold cmpC; rw [if_neg (by omega), if_neg (by omega)]
theorem isNaN14 (k : Int) (w : World) : Calls Tryz.prog 186 #[.int .i64 k] w fun e w' => e = .returned (.bool false) ∧ w' = w := by
  have e1 : (k != k) = false := by simp
  go_enter Tryz.func186, Tryz.ntmps186
  go_wp2
  go_ret
  exact ⟨rfl, rfl⟩
theorem compare14 (a b : Int) (w : World) : Calls Tryz.prog 175 #[.int .i64 a, .int .i64 b] w fun e w' => e = .returned (.int .i64 (cmpC a b)) ∧ w' = w := by
  by_cases h1 : a < b
  · have HV := box (cmpC_lt h1)
    go_enter Tryz.func175, Tryz.ntmps175
    go_wp2_with fail
    refine (isNaN14 _ _).mono ?_; rintro e w1 ⟨rfl, rfl⟩
    go_wp2_with fail
    refine (isNaN14 _ _).mono ?_; rintro e w1 ⟨rfl, rfl⟩
    go_wp2
    go_ret
    exact ⟨by rw [HV.out]; rfl, rfl⟩
  · by_cases h2 : b < a
    · have HV := box (cmpC_gt h2)
      go_enter Tryz.func175, Tryz.ntmps175
      go_wp2_with fail
      refine (isNaN14 _ _).mono ?_; rintro e w1 ⟨rfl, rfl⟩
      go_wp2_with fail
      refine (isNaN14 _ _).mono ?_; rintro e w1 ⟨rfl, rfl⟩
      go_wp2
      go_ret
      exact ⟨by rw [HV.out]; rfl, rfl⟩
    · have e : a = b := by omega
      subst e
      have HV := box (cmpC_eq a)
      go_enter Tryz.func175, Tryz.ntmps175
      go_wp2_with fail
      refine (isNaN14 _ _).mono ?_; rintro e w1 ⟨rfl, rfl⟩
      go_wp2_with fail
      refine (isNaN14 _ _).mono ?_; rintro e w1 ⟨rfl, rfl⟩
      go_wp2
      go_ret
      exact ⟨by rw [HV.out]; rfl, rfl⟩
theorem mCmp14 (k q i : Int) (a : Option Addr) (n c : Nat) (w : World) (h : Box (cmpC q k = i)) :
    Calls Tryz.prog 160 #[.agg #[.int .i64 k, .slice a n c], .int .i64 q] w fun e w' => e = .returned (.int .i64 i) ∧ Below w.heap.size w w' := by
  go_enter Tryz.func160, Tryz.ntmps160
  go_wp2_with fail
  refine (compare14 _ _ _).mono ?_; rintro e w1 ⟨rfl, rfl⟩
  rw [h.out]
  go_wp2
  go_ret
  exact ⟨rfl, below_new _ _⟩
def SrchRel (q : Int) (T : List TL) (W : World) (i j : Value) (wr : World) : Prop :=
  ∃ x y : Nat, i = .int .i64 x ∧ j = .int .i64 y ∧ x ≤ y ∧ y ≤ T.length ∧ Box (∀ k (hk : k < T.length), k < x → q < T[k].1) ∧ Box (∀ k (hk : k < T.length), y ≤ k → T[k].1 ≤ q) ∧ Below W.heap.size W wr
/-- all slices are written out -/
def Slices (T : List TL) : Prop := ∀ i (h : i < T.length), ∃ a n c, T[i].2.1 = .slice a n c
def SrchPost (q : Int) (T : List TL) (w : World) (e : Ending) (w' : World) : Prop :=
  ∃ (k : Nat) (f : Bool), e = .returned (.tuple #[.int .i64 k, .bool f]) ∧ k ≤ T.length ∧ (∀ i (hi : i < T.length), i < k → q < T[i].1) ∧ (∀ i (hi : i < T.length), k ≤ i → T[i].1 ≤ q) ∧ (f = true ↔ ∃ h : k < T.length, T[k].1 = q) ∧ Below w.heap.size w w'
set_option maxHeartbeats 1000000 in
theorem mSearch14 (a : Option Addr) (cap : Nat) (T : List TL) (q : Int) (w : World) (hl : T.length ≤ 65536) (hD : Box (DescV (plT T))) (hS : Box (Slices T)) (hT : Box (Ts w a T)) :
    Calls Tryz.prog 159 #[.slice a T.length cap, .int .i64 q, .func (.func 160) #[] #[]] w fun e w' =>
      SrchPost q T w e w' := by
  go_enter Tryz.func159, Tryz.ntmps159
  go_wp2
  go_loopw [9, 10] (fun i j wr => SrchRel q T w i j wr) (fun i j _ => (intOf j).toNat - (intOf i).toNat)
  case atStart => exact ⟨0, T.length, rfl, rfl, Nat.zero_le _, Nat.le_refl _, box (fun k hk h => absurd h (by omega)), box (fun k hk h => absurd hk (by omega)), Below.refl _ _⟩
  case round =>
    obtain ⟨x, y, rfl, rfl, hxy, hyl, HA, HB, hbel⟩ := hrel
    have BL := box hbel
    have T1 := box (hT.out.below hbel)
    clear hbel
    by_cases hlt : x < y
    · have hji : (x : Int) < (y : Int) := by omega
      obtain ⟨h, hh⟩ : ∃ h, (x + y) / 2 = h := ⟨_, rfl⟩
      have hh1 : h < T.length := by omega
      obtain ⟨p, hp⟩ : ∃ p, T[h] = p := ⟨_, rfl⟩
      obtain ⟨g, off, rfl, c0, c1⟩ := T1.out h hh1
      obtain ⟨sa, sn, sc, hs⟩ := hS.out h hh1
      rw [hp] at c0 c1 hs
      rw [hs] at c1
      by_cases hq : q < p.1
      · have HC := box (cmpC_lt hq)
        go_wp2_with fail
        refine (mCmp14 _ _ _ _ _ _ _ HC).mono ?_; rintro e w2 ⟨rfl, hb2⟩
        have B2 := box (BL.out.trans (hb2.mono BL.out.size))
        clear hb2 c0 c1
        go_wp2
        go_roundw
        case rel =>
          refine ⟨h + 1, y, by go_num, rfl, by omega, hyl, box (fun k hk hkh => ?_), HB, B2.out⟩
          by_cases e : k = h
          · subst e; rw [hp]; exact hq
          · have := descV_at (l := plT T) hD.out k h (by simpa [plT] using hk) (by simpa [plT] using hh1) (by omega)
            simp only [plT, List.getElem_map, hp] at this
            omega
        case measure => simp [intOf]; omega
      · have HC : Box (cmpC q p.1 = 0) ∨ Box (cmpC q p.1 = 1) := by
          rcases Int.lt_or_eq_of_le (show p.1 ≤ q by omega) with h2 | h2
          · exact .inr (box (cmpC_gt h2))
          · exact .inl (box (by rw [h2]; exact cmpC_eq q))
        rcases HC with HC | HC
        all_goals
          go_wp2_with fail
          refine (mCmp14 _ _ _ _ _ _ _ HC).mono ?_; rintro e w2 ⟨rfl, hb2⟩
          have B2 := box (BL.out.trans (hb2.mono BL.out.size))
          clear hb2 c0 c1
          go_wp2
          go_roundw
          case rel =>
            refine ⟨x, h, rfl, by go_num, by omega, by omega, HA, box (fun k hk hkh => ?_), B2.out⟩
            by_cases e : k = h
            · subst e; rw [hp]; omega
            · have := descV_at (l := plT T) hD.out h k (by simpa [plT] using hh1) (by simpa [plT] using hk) (by omega)
              simp only [plT, List.getElem_map, hp] at this
              omega
          case measure => simp [intOf]; omega
    · have hji : ¬ (x : Int) < (y : Int) := by omega
      obtain rfl : x = y := by omega
      by_cases hn : x < T.length
      · have hni : (x : Int) < (T.length : Int) := by omega
        obtain ⟨p, hp⟩ : ∃ p, T[x] = p := ⟨_, rfl⟩
        obtain ⟨g, off, rfl, c0, c1⟩ := T1.out x hn
        obtain ⟨sa, sn, sc, hs⟩ := hS.out x hn
        rw [hp] at c0 c1 hs
        rw [hs] at c1
        by_cases hq : p.1 = q
        · subst hq
          have HC := box (cmpC_eq p.1)
          go_wp2_with fail
          refine (mCmp14 _ _ _ _ _ _ _ HC).mono ?_; rintro e w2 ⟨rfl, hb2⟩
          have B2 := box (BL.out.trans (hb2.mono BL.out.size))
          clear hb2 c0 c1
          go_wp2
          go_ret2
          exact ⟨x, true, rfl, hyl, HA.out, HB.out, ⟨fun _ => ⟨hn, by rw [hp]⟩, fun _ => rfl⟩, B2.out⟩
        · have HC : Box (cmpC q p.1 = 1) := box (cmpC_gt (by have := HB.out x hn (Nat.le_refl _); rw [hp] at this; omega))
          have HQ := box hq
          clear hq
          go_wp2_with fail
          refine (mCmp14 _ _ _ _ _ _ _ HC).mono ?_; rintro e w2 ⟨rfl, hb2⟩
          have B2 := box (BL.out.trans (hb2.mono BL.out.size))
          clear hb2 c0 c1
          go_wp2
          go_ret2
          exact ⟨x, false, rfl, hyl, HA.out, HB.out, ⟨fun h => (by cases h), fun ⟨h1, h2⟩ => absurd (by rw [← hp]; exact h2) HQ.out⟩, B2.out⟩
      · have hni : ¬ (x : Int) < (T.length : Int) := by omega
        go_wp2
        go_ret2
        exact ⟨x, false, rfl, hyl, HA.out, HB.out, ⟨fun h => (by cases h), fun ⟨h1, h2⟩ => absurd h1 hn⟩, BL.out⟩
end
section
open Go.RowKit
def putT (T : List TL) (i : Nat) (p : Int) : List TL := T.take i ++ (p, .slice none 0 0, []) :: T.drop i
theorem cellsT_take (T : List TL) (i : Nat) (h : i ≤ T.length) : cellsT (T.take i) = (cellsT T).take (i * 2) := by
  have e : cellsT T = cellsT (T.take i) ++ cellsT (T.drop i) := by rw [← cellsT_app, List.take_append_drop]
  have hl : (cellsT (T.take i)).length = i * 2 := by rw [cellsT_len, List.length_take, Nat.min_eq_left h]
  rw [e, ← hl, List.take_left]
theorem cellsT_drop (T : List TL) (i : Nat) (h : i ≤ T.length) : cellsT (T.drop i) = (cellsT T).drop (i * 2) := by
  have e : cellsT T = cellsT (T.take i) ++ cellsT (T.drop i) := by rw [← cellsT_app, List.take_append_drop]
  have hl : (cellsT (T.take i)).length = i * 2 := by rw [cellsT_len, List.length_take, Nat.min_eq_left h]
  rw [e, ← hl, List.drop_left]
theorem putT_cells (T : List TL) (i : Nat) (p : Int) (h : i ≤ T.length) : cellsT (putT T i p) = (cellsT T).take (i * 2) ++ [.int .i64 p, .slice none 0 0] ++ (cellsT T).drop (i * 2) := by
  unfold putT
  rw [cellsT_app, cellsT_cons, cellsT_take T i h, cellsT_drop T i h]
  simp
theorem putT_len (T : List TL) (i : Nat) (p : Int) (h : i ≤ T.length) : (putT T i p).length = T.length + 1 := by
  unfold putT
  rw [List.length_append, List.length_take, List.length_cons, List.length_drop]; omega
theorem putT_end (T : List TL) (p : Int) : putT T T.length p = T ++ [(p, .slice none 0 0, [])] := by unfold putT; simp
/-- the two copies of an insertion in place -/
theorem shift_cells (l cs : List Value) (a n : Nat) (x : List Value) (hx : x.length = 2) (ha : a ≤ n) (hl : n + 2 ≤ l.length) (hc : l.take n = cs) (h1 : (l.take (a + 2) ++ cs.drop a ++ l.drop (a + 2 + (cs.drop a).length)).length = l.length → True) :
    (((l.take (a + 2) ++ cs.drop a ++ l.drop (a + 2 + (cs.drop a).length)).take a ++ x ++ (l.take (a + 2) ++ cs.drop a ++ l.drop (a + 2 + (cs.drop a).length)).drop (a + x.length))).take (n + 2) = cs.take a ++ x ++ cs.drop a := by
  have hcl : cs.length = n := by rw [← hc, List.length_take]; omega
  have hd : (cs.drop a).length = n - a := by rw [List.length_drop, hcl]
  have e1 : (l.take (a + 2) ++ cs.drop a ++ l.drop (a + 2 + (cs.drop a).length)).take a = cs.take a := by
    rw [List.append_assoc, List.take_append_of_le_length (by rw [List.length_take]; omega), List.take_take, ← hc, List.take_take]
    congr 1; omega
  have e2 : (l.take (a + 2) ++ cs.drop a ++ l.drop (a + 2 + (cs.drop a).length)).drop (a + x.length) = cs.drop a ++ l.drop (n + 2) := by
    have hl2 : (l.take (a + 2)).length = a + 2 := by rw [List.length_take]; omega
    have hk : a + 2 + (cs.drop a).length = n + 2 := by rw [hd]; omega
    rw [hx, List.append_assoc, hk]
    have := List.drop_left (l₁ := l.take (a + 2)) (l₂ := cs.drop a ++ l.drop (n + 2))
    rw [hl2] at this
    exact this
  rw [e1, e2, ← List.append_assoc]
  have hl3 : (cs.take a ++ x ++ cs.drop a).length = n + 2 := by rw [List.length_append, List.length_append, List.length_take, hx, hd]; omega
  rw [← hl3, List.take_left]
/-- the two copies of an insertion into a new row -/
theorem fresh_cells (r cs : List Value) (a n : Nat) (x : List Value) (hx : x.length = 2) (ha : a ≤ n) (hcl : cs.length = n) (hr : n + 2 ≤ r.length) (hc : r.take a = cs.take a) :
    ((r.take a ++ x ++ r.drop (a + x.length)).take (a + 2) ++ cs.drop a ++ (r.take a ++ x ++ r.drop (a + x.length)).drop (a + 2 + (cs.drop a).length)).take (n + 2) = cs.take a ++ x ++ cs.drop a := by
  have hd : (cs.drop a).length = n - a := by rw [List.length_drop, hcl]
  have hl : (r.take a ++ x).length = a + 2 := by rw [List.length_append, List.length_take, hx]; omega
  have e1 : (r.take a ++ x ++ r.drop (a + x.length)).take (a + 2) = cs.take a ++ x := by rw [← hl, List.take_left, hc]
  rw [e1]
  have hl3 : (cs.take a ++ x ++ cs.drop a).length = n + 2 := by rw [List.length_append, List.length_append, List.length_take, hx, hd]; omega
  rw [List.take_append_of_le_length (by omega), ← hl3, List.take_length]
/-- append of one level that lies in a block of its own -/
theorem wpList_append_lev (w : World) {ops : Array Oper} {rest : List Oper} {o : Oper} {a : Act} {Q : Exit → Act → World → Prop} (hgd : o.guard = none) (s x : Operand)
    (ho : o.op = .call { callee := .builtin .append, args := #[s, x], argTypes := #[139, 139] })
    (B : Nat) (v : Value) (T : List TL) (hs : a.eval s = v) (hown : OwnTL w B v T)
    (g : Nat) (c : Nat) (hx : a.eval x = .slice (some ⟨g, 0, none⟩) 1 c) (p : Int) (h0 : w.cell? ⟨g, 0, none⟩ = some (.int .i64 p)) (h1 : w.cell? ⟨g, 1, none⟩ = some (.slice none 0 0)) (hl : T.length ≤ 65536) (hB : B ≤ w.heap.size)
    (h : ∀ v' w', OwnTL w' B v' (T ++ [(p, .slice none 0 0, [])]) → w.grownBy w' v.ownBlock → wpList Tryz.prog ops Q rest (a.put o.dst v') w') : wpList Tryz.prog ops Q (o :: rest) a w := by
  obtain ⟨i0, hi0, hz0, hz1, hz2⟩ := info_parts info_lev
  refine wpList_append_own (P := Tryz.prog) w hgd s x 139 ho B 142 i0 _ 2 32 Tryz.underlying139 hi0 hz0 hz1 hz2 rfl (by decide) v T.length (cellsT T) hs hown ⟨g, 0, none⟩ 1 c [.int .i64 p, .slice none 0 0] hx rfl ?_ ?_ (by unfold maxLen; omega) (by omega) hB ?_
  · intro j u hj
    match j, hj with
    | 0, hj => simp at hj; subst hj; simpa [Addr.add] using h0
    | 1, hj => simp at hj; subst hj; simpa [Addr.add] using h1
  · intro u hu; simp at hu; rcases hu with rfl | rfl <;> rfl
  · intro v' w' q1 q2 _
    exact h v' w' (by simpa [OwnTL, cellsT_app, cellsT] using q1) q2
def InsPost (B : Nat) (v : Value) (T : List TL) (i : Nat) (p : Int) (w : World) (e : Ending) (w' : World) : Prop :=
  ∃ v', e = .returned v' ∧ OwnTL w' B v' (putT T i p) ∧ w.grownBy w' v.ownBlock
theorem mInsEnd (B : Nat) (v : Value) (T : List TL) (p : Int) (vb vc : Nat) (w : World) (hl : T.length ≤ 65536) (hO : Box (OwnTL w B v T)) (hB : B ≤ w.heap.size) (h0 : w.cell? ⟨vb, 0, none⟩ = some (.int .i64 p)) (h1 : w.cell? ⟨vb, 1, none⟩ = some (.slice none 0 0)) :
    Calls Tryz.prog 161 #[v, .int .i64 T.length, .slice (some ⟨vb, 0, none⟩) 1 vc] w fun e w' => InsPost B v T T.length p w e w' := by
  obtain ⟨a, c, hv, _, hc⟩ := hO.out.ts
  obtain ⟨n, hn⟩ : ∃ n, T.length = n := ⟨_, rfl⟩
  have HN := box hn
  rw [hn] at hv hc hl ⊢
  subst hv
  clear hn
  have hc63 : c ≤ 9223372036854775807 := by
    rcases hO.out.2 with ⟨h, _⟩ | ⟨g, cap, cur, h, _, _, _, hm, _⟩
    · cases h; omega
    · cases h; unfold maxLen at hm; omega
  go_enter Tryz.func161, Tryz.ntmps161
  go_wp2_with (at_builtin; refine wpList_append_lev _ rfl _ _ rfl B (.slice a n c) T rfl hO.out vb vc rfl p h0 h1 (by rw [HN.out]; exact hl) hB ?_; intro v2 w2 hO2 hg2)
  all_goals
    go_ret
    exact ⟨_, rfl, by rw [← HN.out, putT_end]; exact hO2, by first | exact hg2 | (subst h; exact hg2)⟩
theorem cellsT_one {T : List TL} (h : Slices T) : ∀ v ∈ cellsT T, v.oneCell' = true := by
  intro v hv
  obtain ⟨t, ht, hv⟩ := List.mem_flatMap.1 hv
  obtain ⟨i, hi, rfl⟩ := List.getElem_of_mem ht
  obtain ⟨a, n, c, e⟩ := h i hi
  simp at hv
  rcases hv with rfl | rfl
  · rfl
  · rw [e]; rfl
/-- in place: there is room -/
theorem mInsShift (B b n c i vb vc : Nat) (T : List TL) (p : Int) (cur : Array Value) (w : World) (hSl : Box (Slices T)) (hl : T.length ≤ 65536) (hn : T.length = n) (hB : B ≤ b) (hg : Box (w.heap[b]? = some (.cells cur 142 (0, 0)))) (hz : Box (cur.size = c * 2)) (hcs : Box (cur.toList.take (n * 2) = cellsT T))
    (hi : i < n) (hroom : n + 1 ≤ c) (hc63 : c ≤ 9223372036854775807) (hne : vb ≠ b) (hv : Box (w.heap[vb]? = some (.cells #[.int .i64 p, .slice none 0 0] 142 (0, 0)))) :
    Calls Tryz.prog 161 #[.slice (some ⟨b, 0, none⟩) n c, .int .i64 i, .slice (some ⟨vb, 0, none⟩) 1 vc] w fun e w' => InsPost B (.slice (some ⟨b, 0, none⟩) n c) T i p w e w' := by
  obtain ⟨i0, hi0, hz0, hz1, hz2⟩ := info_parts info_lev
  have hsz : (Tryz.prog.info? 142).map (·.size) = some 2 := by rw [hi0]; simp [hz1]
  have hsl : ∀ w, (Go.sizeOf 142).run Tryz.prog w = .ok 2 w := fun w => by simp [sizeOf, typeInfo, hi0, hz1]
  have hov : ∀ lb cb, (callFunc 176 #[.slice (some ⟨vb, 0, none⟩) 1 vc, .slice (some ⟨b, (i + 1) * 2, none⟩) lb cb]).run Tryz.prog w = .ok (.value (.bool false)) w := fun lb cb => by
    rw [run_callFunc_extern Tryz.func176 (by kernel_rfl) (by kernel_rfl) (by kernel_rfl) (e := Extern.SlicesOverlaps.overlaps #[139, 139] #[4]) (by kernel_rfl),
      Lib.run_overlaps_apart w 139 4 142 Tryz.underlying139 2 hsl ⟨vb, 0, none⟩ ⟨b, (i + 1) * 2, none⟩ 1 vc lb cb hne 142 142 2 cur.size (by simp [World.shape?, hv.out]) (by simp [World.shape?, hg.out]) (by have := hz.out; omega) (by simp [World.frozen?, hv.out]) (by simp [World.frozen?, hv.out])]
    rfl
  obtain ⟨cs, hc⟩ : ∃ cs, cellsT T = cs := ⟨_, rfl⟩
  have hcl : cs.length = n * 2 := by rw [← hc, cellsT_len, hn]
  have hcs2 := hcs.out
  have hzz := hz.out
  rw [hc] at hcs2
  have hdl : (cs.drop (i * 2)).length = (n - i) * 2 := by rw [List.length_drop, hcl]; omega
  have hlt : cur.toList.length = c * 2 := by simpa using hzz
  have hat : ∀ j v, cs[j]? = some v → cur[j]? = some v := fun j v hj => by
    rw [← hcs2, List.getElem?_take] at hj
    split at hj
    · simpa using hj
    · cases hj
  have h1c : ∀ v ∈ cs, v.oneCell' = true := fun v hv2 => by
    rw [← hc] at hv2
    exact cellsT_one hSl.out v hv2
  obtain ⟨R1, hR1⟩ : ∃ R1, cur.toList.take ((i + 1) * 2) ++ cs.drop (i * 2) ++ cur.toList.drop ((i + 1) * 2 + (cs.drop (i * 2)).length) = R1 := ⟨_, rfl⟩
  have hR1l : R1.length = c * 2 := by rw [← hR1]; simp only [List.length_append, List.length_take, List.length_drop, hlt, hcl]; omega
  obtain ⟨R2, hR2⟩ : ∃ R2, R1.take (i * 2) ++ [.int .i64 p, .slice none 0 0] ++ R1.drop (i * 2 + 2) = R2 := ⟨_, rfl⟩
  have hcp1 : ∀ (W : World) (hW : W.heap[b]? = some (.cells cur 142 (0, 0))) ty dc sc, (Builtin.copy_ #[139, 139] ty #[.slice (some ⟨b, (i + 1) * 2, none⟩) (n - i) dc, .slice (some ⟨b, i * 2, none⟩) (n + 1 - i) sc]).run Tryz.prog W = .ok (goInt ((n - i : Nat))) (W.setRow b R1.toArray) := fun W hW ty dc sc => by
    rw [run_copy_rowN W 139 139 ty 142 2 (n - i) b ((i + 1) * 2) (n - i) dc ⟨b, i * 2, none⟩ (n + 1 - i) sc cur 142 (cs.drop (i * 2)) Tryz.underlying139 hsz hW (by simp only [Nat.min_def]; split <;> omega) hdl
      (fun j v hj => by rw [Addr.add_lit]; simp only [World.cell?, hW]; exact hat _ v (by rwa [List.getElem?_drop] at hj)) (by rw [hdl, hzz]; omega) (fun v hv2 => h1c v (List.mem_of_mem_drop hv2)), hR1]
  have hcp2 : ∀ (W : World) (hW : W.heap[b]? = some (.cells R1.toArray 142 (0, 0))) (hV : W.heap[vb]? = some (.cells #[.int .i64 p, .slice none 0 0] 142 (0, 0))) ty dc, (Builtin.copy_ #[139, 139] ty #[.slice (some ⟨b, i * 2, none⟩) (n + 1 - i) dc, .slice (some ⟨vb, 0, none⟩) 1 vc]).run Tryz.prog W = .ok (goInt ((1 : Nat))) (W.setRow b R2.toArray) := fun W hW hV ty dc => by
    rw [run_copy_rowN W 139 139 ty 142 2 1 b (i * 2) (n + 1 - i) dc ⟨vb, 0, none⟩ 1 vc R1.toArray 142 [.int .i64 p, .slice none 0 0] Tryz.underlying139 hsz hW (by simp only [Nat.min_def]; split <;> omega) rfl
      (fun j v hj => by
        rw [Addr.add_lit]; simp only [World.cell?, hV]
        match j, hj with
        | 0, hj => exact hj
        | 1, hj => exact hj) (by simp [hR1l]; omega) (fun v hv2 => by simp at hv2; rcases hv2 with rfl | rfl <;> rfl)]
    simp only [List.length_cons, List.length_nil, hR2]
  have HW1 : Box ((w.drew.setRow b R1.toArray).heap[b]? = some (.cells R1.toArray 142 (0, 0))) := box (setRow_heap w.drew b cur _ _ _ hg.out)
  have HV1 : Box ((w.drew.setRow b R1.toArray).heap[vb]? = some (.cells #[.int .i64 p, .slice none 0 0] 142 (0, 0))) := box (by rw [setRow_other _ _ _ _ hne]; exact hv.out)
  have hz1' : ¬ (i : Int) = (n : Int) := by omega
  have hw1 : IntKind.i64.wrap ((n : Int) + 1) = (n : Int) + 1 := by rw [IntKind.wrap_i64]; omega
  have hw2 : IntKind.i64.wrap ((i : Int) + 1) = (i : Int) + 1 := by rw [IntKind.wrap_i64]; omega
  have hb1 : (0 : Int) ≤ (i : Int) + 1 := by omega
  have hin : i ≤ n := by omega
  have htn : ((i : Int) + 1).toNat = i + 1 := by omega
  have hb2 : ¬ (c = i + 1) := by omega
  have hb3 : (i : Int) ≤ (n : Int) + 1 := by omega
  have hb4 : ¬ (c = i) := by omega
  have hg3 : ¬ ((c : Int) < (n : Int) + 1) := by omega
  go_enter Tryz.func161, Tryz.ntmps161
  go_wp2_with (simp only [hov])
  go_region_law (refine step_copy_run14 rfl _ _ 139 139 rfl (.slice (some ⟨b, (i + 1) * 2, none⟩) (n - i) (c - (i + 1))) (.slice (some ⟨b, i * 2, none⟩) (n + 1 - i) (c - i)) (by simp [Act.eval, Act.put]) (by simp [Act.eval, Act.put]) (hcp1 w.drew hg.out _ _ _) ?_)
  have hh := hcp2 (w.drew.setRow b R1.toArray) HW1.out HV1.out 3 (c - i)
  go_wp2
  go_ret
  have hpl := putT_len T i p (by omega)
  have h2 : (i + 1) * 2 = i * 2 + 2 := by omega
  refine ⟨.slice (some ⟨b, 0, none⟩) (n + 1) c, rfl, ?_, ⟨rfl, rfl, rfl, by simp, fun k hk hkb => ?_⟩⟩
  · unfold OwnTL
    rw [hpl, hn]
    refine ⟨by rw [cellsT_len, hpl, hn], .inr ⟨b, c, R2.toArray, rfl, hB, setRow_heap _ _ _ _ _ _ HW1.out, hroom, by unfold maxLen; omega, ?_, ?_⟩⟩
    · have : R2.length = c * 2 := by rw [← hR2]; simp only [List.length_append, List.length_take, List.length_drop, hR1l, List.length_cons, List.length_nil]; omega
      simpa using this
    · rw [putT_cells T i p (by omega), hc]
      show R2.take ((n + 1) * 2) = _
      have := shift_cells cur.toList cs (i * 2) (n * 2) [.int .i64 p, .slice none 0 0] rfl (by omega) (by omega) hcs2 (fun _ => trivial)
      rw [← h2, hR1] at this
      rw [show (n + 1) * 2 = n * 2 + 2 by omega, ← hR2]
      exact this
  · have hkn : k ≠ b := fun e => hkb (by rw [e]; rfl)
    rw [setRow_other _ _ _ _ hkn, setRow_other _ _ _ _ hkn]; rfl
/-- into a new row: there is no room -/
theorem mInsGrow (B b n i vb vc : Nat) (T : List TL) (p : Int) (cur : Array Value) (w : World) (hSl : Box (Slices T)) (hl : T.length ≤ 65536) (hn : T.length = n) (hB : B ≤ w.heap.size) (hg : Box (w.heap[b]? = some (.cells cur 142 (0, 0)))) (hz : Box (cur.size = n * 2)) (hcs : Box (cur.toList.take (n * 2) = cellsT T))
    (hi : i < n) (hv : Box (w.heap[vb]? = some (.cells #[.int .i64 p, .slice none 0 0] 142 (0, 0)))) :
    Calls Tryz.prog 161 #[.slice (some ⟨b, 0, none⟩) n n, .int .i64 i, .slice (some ⟨vb, 0, none⟩) 1 vc] w fun e w' => InsPost B (.slice (some ⟨b, 0, none⟩) n n) T i p w e w' := by
  obtain ⟨i0, hi0, hz0, hz1, hz2⟩ := info_parts info_lev
  have hsz : (Tryz.prog.info? 142).map (·.size) = some 2 := by rw [hi0]; simp [hz1]
  have hl2 : n ≤ 65536 := by omega
  have hbH : b < w.heap.size := (Array.getElem?_eq_some_iff.1 hg.out).1
  have hvH : vb < w.heap.size := (Array.getElem?_eq_some_iff.1 hv.out).1
  obtain ⟨cs, hc⟩ : ∃ cs, cellsT T = cs := ⟨_, rfl⟩
  have hcl : cs.length = n * 2 := by rw [← hc, cellsT_len, hn]
  have hcs2 := hcs.out
  have hzz := hz.out
  rw [hc] at hcs2
  have hdl : (cs.drop (i * 2)).length = (n - i) * 2 := by rw [List.length_drop, hcl]; omega
  have hlt : cur.toList.length = n * 2 := by simpa using hzz
  have hat : ∀ j v, cs[j]? = some v → cur[j]? = some v := fun j v hj => by
    rw [← hcs2, List.getElem?_take] at hj
    split at hj
    · simpa using hj
    · cases hj
  have h1c : ∀ v ∈ cs, v.oneCell' = true := fun v hv2 => by
    rw [← hc] at hv2
    exact cellsT_one hSl.out v hv2
  have hold : (Builtin.firstCells i0.size i (.slice (some ⟨b, 0, none⟩) i n)).run Tryz.prog w.drew = .ok (cs.take (i * 2)).toArray w.drew := by
    rw [hz1]
    exact run_firstCells_some w.drew 2 i ⟨b, 0, none⟩ i n (cs.take (i * 2)) (by rw [List.length_take, hcl]; omega) (fun j v hj => by
      rw [Addr.add_lit, Nat.zero_add]
      rw [List.getElem?_take] at hj
      split at hj
      · simp only [World.cell?, show w.drew.heap[b]? = some (.cells cur 142 (0, 0)) from hg.out]; exact hat j v hj
      · cases hj)
  obtain ⟨G, hG⟩ : ∃ G, G = grownCap w (n + 1) n 142 := ⟨_, rfl⟩
  obtain ⟨ROW, hROW⟩ : ∃ ROW : Array Value, ROW = (cs.take (i * 2)).toArray ++ Builtin.zeroCells (Value.agg #[.int .i64 0, .slice none 0 0]).cells (n + 1 - i) ++ Builtin.zeroCells (Value.agg #[.int .i64 0, .slice none 0 0]).cells (G - (n + 1)) := ⟨_, rfl⟩
  have hrz : ∀ ty, (Builtin.append_ #[139, 3] ty #[.slice (some ⟨b, 0, none⟩) i n, .int .i64 ((n : Int) + 1 - (i : Int))]).run Tryz.prog w = .ok (.slice (some ⟨w.heap.size, 0, none⟩) (n + 1) G) (w.drew.alloc (.cells ROW 142)) := fun ty => by
    have h := Lib.run_append_grow_zeros w 139 3 ty 142 i0 _ .i64 .i64 Tryz.underlying139 Tryz.underlying3 hi0 hz0 (some ⟨b, 0, none⟩) i n (cs.take (i * 2)) hold (n + 1 - i) (by omega) (by omega) (by omega) (by omega) (by rw [hz2]; omega) (by rw [hz2, show i + (n + 1 - i) = n + 1 by omega]; exact growslice_fits (by omega) (by omega))
    rw [show i + (n + 1 - i) = n + 1 by omega, ← hG, ← hROW] at h
    rw [show (n : Int) + 1 - (i : Int) = ((n + 1 - i : Nat) : Int) by omega]
    exact h
  have hGn : n + 1 ≤ G := by rw [hG]; exact grownCap_ge w _ _ _
  have hG63 : G ≤ 9223372036854775807 := by
    have := grownCap_le_maxLen w (n + 1) n 142 (by unfold maxLen; omega)
    rw [← hG] at this
    unfold maxLen at this
    omega
  have hRs : ROW.size = G * 2 := by
    rw [hROW]
    simp [Builtin.zeroCells, Value.cells, hcl]
    omega
  have hRt : ROW.toList.take (i * 2) = cs.take (i * 2) := by
    rw [hROW, Array.append_assoc, Array.toList_append]
    rw [List.take_append_of_le_length (by simp [hcl]; omega)]
    simp
    rw [List.take_take, Nat.min_self]
  obtain ⟨R1, hR1⟩ : ∃ R1, ROW.toList.take (i * 2) ++ [.int .i64 p, .slice none 0 0] ++ ROW.toList.drop (i * 2 + 2) = R1 := ⟨_, rfl⟩
  have hR1l : R1.length = G * 2 := by rw [← hR1]; simp only [List.length_append, List.length_take, List.length_drop, List.length_cons, List.length_nil, Array.length_toList, hRs]; omega
  obtain ⟨R2, hR2⟩ : ∃ R2, R1.take ((i + 1) * 2) ++ cs.drop (i * 2) ++ R1.drop ((i + 1) * 2 + (cs.drop (i * 2)).length) = R2 := ⟨_, rfl⟩
  have hcpA : ∀ (W : World) (hW : W.heap[w.heap.size]? = some (.cells ROW 142 (0, 0))) (hV : W.heap[vb]? = some (.cells #[.int .i64 p, .slice none 0 0] 142 (0, 0))) ty dc, (Builtin.copy_ #[139, 139] ty #[.slice (some ⟨w.heap.size, i * 2, none⟩) (n + 1 - i) dc, .slice (some ⟨vb, 0, none⟩) 1 vc]).run Tryz.prog W = .ok (goInt ((1 : Nat))) (W.setRow w.heap.size R1.toArray) := fun W hW hV ty dc => by
    rw [run_copy_rowN W 139 139 ty 142 2 1 w.heap.size (i * 2) (n + 1 - i) dc ⟨vb, 0, none⟩ 1 vc ROW 142 [.int .i64 p, .slice none 0 0] Tryz.underlying139 hsz hW (by simp only [Nat.min_def]; split <;> omega) rfl
      (fun j v hj => by
        rw [Addr.add_lit]; simp only [World.cell?, hV]
        match j, hj with
        | 0, hj => exact hj
        | 1, hj => exact hj) (by simp [hRs]; omega) (fun v hv2 => by simp at hv2; rcases hv2 with rfl | rfl <;> rfl)]
    simp only [List.length_cons, List.length_nil, hR1]
  have hcpB : ∀ (W : World) (hW : W.heap[w.heap.size]? = some (.cells R1.toArray 142 (0, 0))) (hV : W.heap[b]? = some (.cells cur 142 (0, 0))) ty dc sc, (Builtin.copy_ #[139, 139] ty #[.slice (some ⟨w.heap.size, (i + 1) * 2, none⟩) (n - i) dc, .slice (some ⟨b, i * 2, none⟩) (n - i) sc]).run Tryz.prog W = .ok (goInt ((n - i : Nat))) (W.setRow w.heap.size R2.toArray) := fun W hW hV ty dc sc => by
    rw [run_copy_rowN W 139 139 ty 142 2 (n - i) w.heap.size ((i + 1) * 2) (n - i) dc ⟨b, i * 2, none⟩ (n - i) sc R1.toArray 142 (cs.drop (i * 2)) Tryz.underlying139 hsz hW (by simp only [Nat.min_def]; split <;> omega) hdl
      (fun j v hj => by rw [Addr.add_lit]; simp only [World.cell?, hV]; exact hat _ v (by rwa [List.getElem?_drop] at hj)) (by simp only [hdl, List.size_toArray, hR1l]; omega) (fun v hv2 => h1c v (List.mem_of_mem_drop hv2))]
    rw [hR2]
  have HA1 : Box (((w.alloc (.cells ROW 142)).drew).heap[w.heap.size]? = some (.cells ROW 142 (0, 0))) := box (heap_alloc_new w _)
  have HA2 : Box (((w.alloc (.cells ROW 142)).drew).heap[vb]? = some (.cells #[.int .i64 p, .slice none 0 0] 142 (0, 0))) := box ((heap_alloc_old w (.cells ROW 142) hvH).trans hv.out)
  have HA3 : Box (((w.alloc (.cells ROW 142)).drew).heap[b]? = some (.cells cur 142 (0, 0))) := box ((heap_alloc_old w (.cells ROW 142) hbH).trans hg.out)
  have HB1 : Box (((((w.alloc (.cells ROW 142)).drew).setRow w.heap.size R1.toArray).drew).heap[w.heap.size]? = some (.cells R1.toArray 142 (0, 0))) := box (setRow_heap _ _ _ _ _ _ HA1.out)
  have HB2 : Box (((((w.alloc (.cells ROW 142)).drew).setRow w.heap.size R1.toArray).drew).heap[b]? = some (.cells cur 142 (0, 0))) := box ((setRow_other _ _ _ _ (by omega)).trans HA3.out)
  have hh1 := hcpA ((w.alloc (.cells ROW 142)).drew) HA1.out HA2.out 3 (G - i)
  have hh2 := hcpB ((((w.alloc (.cells ROW 142)).drew).setRow w.heap.size R1.toArray).drew) HB1.out HB2.out
  have HR1 := box hR1
  have HR2 := box hR2
  have HRs := box hRs
  have HRt := box hRt
  have HCL := box hcl
  have HCS := box hcs2
  have HC := box hc
  clear hR1 hR2 hRs hRt hcl hcs2 hc hROW hold hat h1c hcpA hcpB hG hdl hlt hzz
  have hz1' : ¬ (i : Int) = (n : Int) := by omega
  have hw1 : IntKind.i64.wrap ((n : Int) + 1) = (n : Int) + 1 := by rw [IntKind.wrap_i64]; omega
  have hw2 : IntKind.i64.wrap ((i : Int) + 1) = (i : Int) + 1 := by rw [IntKind.wrap_i64]; omega
  have hw3 : IntKind.i64.wrap ((n : Int) + 1 - (i : Int)) = (n : Int) + 1 - (i : Int) := by rw [IntKind.wrap_i64]; omega
  have hb1 : (0 : Int) ≤ (i : Int) + 1 := by omega
  have hin : i ≤ n := by omega
  have htn : ((i : Int) + 1).toNat = i + 1 := by omega
  have hb2 : ¬ (G = i + 1) := by omega
  have hb3 : (i : Int) ≤ (n : Int) + 1 := by omega
  have hb4 : ¬ (G = i) := by omega
  have hb5 : ¬ (n = i) := by omega
  have hg3 : (n : Int) < (n : Int) + 1 := by omega
  go_enter Tryz.func161, Tryz.ntmps161
  go_wp2_with (at_builtin; refine Lib.wpList_append_run _ rfl _ _ _ _ rfl _ _ rfl rfl _ _ (hrz _) ?_)
  go_region_law (refine step_copy_run14 rfl _ _ 139 139 rfl (.slice (some ⟨w.heap.size, (i + 1) * 2, none⟩) (n - i) (G - (i + 1))) (.slice (some ⟨b, i * 2, none⟩) (n - i) (n - i)) (by simp [Act.eval, Act.put]) (by simp [Act.eval, Act.put]) (hh2 _ _ _) ?_)
  go_wp2
  go_ret
  have hpl := putT_len T i p (by omega)
  have h2 : (i + 1) * 2 = i * 2 + 2 := by omega
  refine ⟨.slice (some ⟨w.heap.size, 0, none⟩) (n + 1) G, rfl, ?_, ⟨rfl, rfl, rfl, by simp, fun k hk hkb => ?_⟩⟩
  · unfold OwnTL
    rw [hpl, hn]
    refine ⟨by rw [cellsT_len, hpl, hn], .inr ⟨w.heap.size, G, R2.toArray, rfl, hB, setRow_heap _ _ _ _ _ _ HB1.out, hGn, by unfold maxLen; omega, ?_, ?_⟩⟩
    · have hdl : (cs.drop (i * 2)).length = (n - i) * 2 := by rw [List.length_drop, HCL.out]; omega
      have : R2.length = G * 2 := by rw [← HR2.out]; simp only [List.length_append, List.length_take, List.length_drop, hR1l, HCL.out]; omega
      simpa using this
    · rw [putT_cells T i p (by omega), HC.out]
      show R2.take ((n + 1) * 2) = _
      have := fresh_cells ROW.toList cs (i * 2) (n * 2) [.int .i64 p, .slice none 0 0] rfl (by omega) HCL.out (by rw [Array.length_toList, HRs.out]; omega) HRt.out
      simp only [List.length_cons, List.length_nil, Nat.zero_add, Nat.reduceAdd] at this
      rw [HR1.out, ← h2, HR2.out] at this
      rw [show (n + 1) * 2 = n * 2 + 2 by omega]
      exact this
  · have hkn : k ≠ w.heap.size := by omega
    rw [setRow_other _ _ _ _ hkn]
    show ((w.alloc (.cells ROW 142)).drew.setRow w.heap.size R1.toArray).heap[k]? = _
    rw [setRow_other _ _ _ _ hkn]
    exact heap_alloc_old w (.cells ROW 142) hk
/-- one level more, whatever room there is -/
theorem mInsert14 (B : Nat) (v : Value) (T : List TL) (i vb vc : Nat) (p : Int) (w : World) (hSl : Box (Slices T)) (hl : T.length ≤ 65536) (hi : i ≤ T.length) (hO : Box (OwnTL w B v T)) (hB : B ≤ w.heap.size) (hne : v.ownBlock ≠ some vb) (hv : Box (w.heap[vb]? = some (.cells #[.int .i64 p, .slice none 0 0] 142 (0, 0)))) :
    Calls Tryz.prog 161 #[v, .int .i64 i, .slice (some ⟨vb, 0, none⟩) 1 vc] w fun e w' => InsPost B v T i p w e w' := by
  by_cases he : i = T.length
  · subst he
    exact mInsEnd B v T p vb vc w hl hO hB (by simp [World.cell?, hv.out]) (by simp [World.cell?, hv.out])
  · rcases hO.out.2 with ⟨_, h0⟩ | ⟨g, cap, cur, rfl, hBg, hg, hc, hm, hs, ht⟩
    · omega
    · by_cases hr : T.length + 1 ≤ cap
      · exact mInsShift B g T.length cap i vb vc T p cur w hSl hl rfl hBg (box hg) (box hs) (box ht) (by omega) hr (by unfold maxLen at hm; omega) (by intro e; apply hne; rw [e]; rfl) hv
      · obtain rfl : cap = T.length := by omega
        exact mInsGrow B g T.length i vb vc T p cur w hSl hl rfl hB (box hg) (box hs) (box ht) (by omega) hv
end
section
open Go.RowKit
theorem cellsT_set : ∀ {T : List TL} {k : Nat} (h : k < T.length) (s : Value) (vs : List ByteArray), cellsT (T.set k (T[k].1, s, vs)) = (cellsT T).set (k * 2 + 1) s
  | t :: T, 0, _, s, vs => rfl
  | t :: T, k + 1, h, s, vs => by
    have ih := cellsT_set (T := T) (k := k) (by simpa using h) s vs
    rw [List.set_cons_succ, cellsT_cons, cellsT_cons, show (k + 1) * 2 + 1 = k * 2 + 1 + 2 by omega]
    show _ :: _ :: cellsT (T.set k ((T[k]'(by simpa using h)).1, s, vs)) = _
    rw [ih]; rfl
theorem grown_set (w : World) (b k : Nat) (s : Value) {cur : Array Value} {e : TypeId} {fr : Nat × Nat} (hg : w.heap[b]? = some (.cells cur e fr)) : w.grownBy (w.setCell ⟨b, k, none⟩ s) (some b) := by
  rw [setCell_eq_setRow w b k cur e fr s hg]
  exact ⟨rfl, rfl, rfl, by simp, fun j hj hne => setRow_other _ _ _ _ (fun h => hne (by rw [h]))⟩
theorem Lev.slices {w : World} {B : Nat} {v : Value} {T : List TL} (h : Lev w B v T) : Slices T := fun i hi => by
  obtain ⟨a, c, e, _, _⟩ := h.slice (List.getElem_mem hi)
  exact ⟨a, _, c, e⟩
theorem own_ne {w : World} {B : Nat} {e : TypeId} {size n : Nat} {v : Value} {xs : List Value} (h : w.ownsRow B e size v n xs) {k : Nat} (hk : v.ownBlock = some k) : k < w.heap.size := (h.lt k hk).2
theorem some_ne {r s : Option Nat} (h : ∀ k, r = some k → s ≠ some k) : s = none ∨ s ≠ r := by
  cases r with
  | none => cases s with
    | none => exact .inl rfl
    | some k => exact .inr (by simp)
  | some k => exact .inr (h k rfl)
/-- a value more in the level at k -/
theorem lev_put {W w2 : World} {B b n c k g m cap : Nat} {T : List TL} {vs : List ByteArray} {cur : Array Value} (hL : Lev W B (.slice (some ⟨b, 0, none⟩) n c) T) (hk : k < T.length)
    (hg2 : W.grownBy w2 T[k].2.1.ownBlock) (hO2 : OwnS w2 B (.slice (some ⟨g, 0, none⟩) m cap) vs) (hat : T[k].2.1.ownBlock = some g ∨ g = W.heap.size) :
    Lev (w2.setCell ⟨b, k * 2 + 1, none⟩ (.slice (some ⟨g, 0, none⟩) m cap)) B (.slice (some ⟨b, 0, none⟩) n c) (T.set k (T[k].1, .slice (some ⟨g, 0, none⟩) m cap, vs)) ∧ Below B W (w2.setCell ⟨b, k * 2 + 1, none⟩ (.slice (some ⟨g, 0, none⟩) m cap)) := by
  have hrow2 : OwnTL w2 B (.slice (some ⟨b, 0, none⟩) n c) T := World.ownsRow.kept hL.row hg2 (some_ne (fun j hj => by
    intro e; exact lev_ne hL.row (hL.vals _ (List.getElem_mem hk)) e hj))
  rcases hrow2.2 with ⟨h, _⟩ | ⟨b', c', cur2, hv, hB, hg, hc, hm, hs, ht⟩
  · cases h
  · injection hv with e1 e2 e3
    injection e1 with e1
    injection e1 with e1 _ _
    subst e1; subst e2; subst e3
    have hgs := grown_set w2 b (k * 2 + 1) (.slice (some ⟨g, 0, none⟩) m cap) hg
    have hBW : B ≤ W.heap.size := by
      have := (hL.row.lt b rfl); omega
    have hkeep : ∀ {s : Value} {L : List ByteArray}, OwnS w2 B s L → OwnS (w2.setCell ⟨b, k * 2 + 1, none⟩ (.slice (some ⟨g, 0, none⟩) m cap)) B s L := fun {s L} h =>
      World.ownsRow.kept h hgs (by
        by_cases e : s.ownBlock = some b
        · exact absurd e (lev_ne hrow2 h rfl)
        · exact .inr e)
    have hold : ∀ j (hj : j < T.length), j ≠ k → OwnS w2 B T[j].2.1 T[j].2.2 ∧ ∀ q, T[j].2.1.ownBlock = some q → q ≠ g := fun j hj hjk => by
      have hap : Apart T[j] T[k] := by
        rcases Nat.lt_or_gt_of_ne hjk with h | h
        · exact List.pairwise_iff_getElem.1 hL.apart j k hj hk h
        · exact (List.pairwise_iff_getElem.1 hL.apart k j hk hj h).symm
      refine ⟨World.ownsRow.kept (hL.vals _ (List.getElem_mem hj)) hg2 (some_ne (fun q hq e => hap q e hq)), fun q hq e => ?_⟩
      subst e
      rcases hat with h | h
      · exact hap q hq h
      · have := own_ne (hL.vals _ (List.getElem_mem hj)) hq; omega
    refine ⟨⟨?_, fun t ht2 => ?_, ?_⟩, ?_⟩
    · have hlen : (T.set k (T[k].1, Value.slice (some ⟨g, 0, none⟩) m cap, vs)).length = T.length := List.length_set ..
      unfold OwnTL
      rw [hlen, cellsT_set hk, setCell_eq_setRow w2 b (k * 2 + 1) cur2 _ _ _ hg]
      refine ⟨by rw [List.length_set, cellsT_len], .inr ⟨b, c, _, rfl, hB, setRow_heap _ _ _ _ _ _ hg, hc, hm, by simpa using hs, ?_⟩⟩
      rw [Array.toList_setIfInBounds, ← ht]
      rw [List.take_set]
    · obtain ⟨j, hj, rfl⟩ := List.getElem_of_mem ht2
      have hjl : j < T.length := by simpa using hj
      rw [List.getElem_set]
      split
      · exact hkeep hO2
      · rename_i hjk
        exact hkeep (hold j hjl (fun e => hjk e.symm)).1
    · rw [List.pairwise_iff_getElem]
      intro i j hi hj hij
      have hil : i < T.length := by simpa using hi
      have hjl : j < T.length := by simpa using hj
      rw [List.getElem_set, List.getElem_set]
      split
      · rename_i hik
        rw [if_neg (by omega)]
        intro q hq h2
        have hqg : g = q := by simpa [Value.ownBlock] using hq
        exact (hold j hjl (by omega)).2 q h2 hqg.symm
      · rename_i hik
        split
        · rename_i hjk
          intro q hq h2
          have hqg : g = q := by simpa [Value.ownBlock] using h2
          exact (hold i hil (by omega)).2 q hq hqg.symm
        · exact List.pairwise_iff_getElem.1 hL.apart i j hil hjl hij
    · have h1 : Below B W w2 := (Below.refl B W).grown hg2 hBW (fun q hq => ((hL.vals _ (List.getElem_mem hk)).lt q hq).1)
      exact h1.grown hgs (Nat.le_trans hBW h1.size) (fun q hq => by cases hq; exact hB)
/-- a level more at i -/
theorem lev_ins {W w2 : World} {B i : Nat} {p : Int} {T : List TL} {v v' : Value} (hL : Lev W B v T) (hg2 : W.grownBy w2 v.ownBlock) (hO2 : OwnTL w2 B v' (putT T i p)) : Lev w2 B v' (putT T i p) := by
  have hold : ∀ t ∈ T, OwnS w2 B t.2.1 t.2.2 := fun t ht => World.ownsRow.kept (hL.vals t ht) hg2 (some_ne (fun q hq e => lev_ne hL.row (hL.vals t ht) hq e))
  have hsub : T = T.take i ++ T.drop i := (List.take_append_drop i T).symm
  refine ⟨hO2, fun t ht => ?_, ?_⟩
  · unfold putT at ht
    rcases List.mem_append.1 ht with ht | ht
    · exact hold t (List.mem_of_mem_take ht)
    · rcases List.mem_cons.1 ht with rfl | ht
      · exact World.ownsRow_nil _ _ _ _
      · exact hold t (List.mem_of_mem_drop ht)
  · have hp := hL.apart
    rw [hsub, List.pairwise_append] at hp
    unfold putT
    rw [List.pairwise_append]
    refine ⟨hp.1, List.pairwise_cons.2 ⟨fun t _ k hk => by simp [Value.ownBlock] at hk, hp.2.1⟩, fun a ha t ht => ?_⟩
    rcases List.mem_cons.1 ht with rfl | ht
    · intro k _ h2; simp [Value.ownBlock] at h2
    · exact hp.2.2 a ha t ht
/-- append of one string that lies in a block of its own, and where the new slice lies -/
theorem wpList_append_strL (w : World) {ops : Array Oper} {rest : List Oper} {o : Oper} {a : Act} {Q : Exit → Act → World → Prop} (hgd : o.guard = none) (s x : Operand)
    (ho : o.op = .call { callee := .builtin .append, args := #[s, x], argTypes := #[29, 29] })
    (B n : Nat) (v : Value) (L : List ByteArray) (hs : a.eval s = v) (hown : OwnS w B v L) (hn : L.length = n)
    (g : Nat) (c : Nat) (hx : a.eval x = .slice (some ⟨g, 0, none⟩) 1 c) (u : ByteArray) (h0 : w.cell? ⟨g, 0, none⟩ = some (.string u)) (hl : n ≤ 65536) (hB : B ≤ w.heap.size)
    (h : ∀ g' cap w', OwnS w' B (.slice (some ⟨g', 0, none⟩) (n + 1) cap) (L ++ [u]) → w.grownBy w' v.ownBlock → (v.ownBlock = some g' ∨ g' = w.heap.size) → wpList Tryz.prog ops Q rest (a.put o.dst (.slice (some ⟨g', 0, none⟩) (n + 1) cap)) w') : wpList Tryz.prog ops Q (o :: rest) a w := by
  obtain ⟨i0, hi0, hz0, hz1, hz2⟩ := info_parts info_str
  subst hn
  refine wpList_append_lies (P := Tryz.prog) w hgd s x 29 ho B 9 i0 _ 1 16 Tryz.underlying29 hi0 hz0 hz1 hz2 rfl (by decide) v L.length (L.map Value.string) hs hown ⟨g, 0, none⟩ 1 c [.string u] hx rfl ?_ ?_ (by omega) (by unfold maxLen; omega) (by omega) hB _ rfl ?_
  · intro j u hj
    match j, hj with
    | 0, hj => simp at hj; subst hj; simpa [Addr.add] using h0
  · intro u hu; simp at hu; subst hu; rfl
  · intro g' cap w' q1 q2 q3 _
    exact h g' cap w' (by simpa [OwnS] using q1) q2 q3
end
section
open Go.RowKit
theorem mMatch14_is {k i : Int} {r v : ByteArray} {w : World} (hk : InI64 k) (hr : r.size ≤ 20000) (hv : v.size ≤ 20000) (h : Box (matchP k r.data.toList v.data.toList = i)) :
    Calls Tryz.prog 124 #[.int .i64 k, .string r, .string v] w fun e w' => e = .returned (.int .i64 i) ∧ Below w.heap.size w w' :=
  (mMatch13_any k r v w hk hr hv).mono fun e w' ⟨h1, h2⟩ => ⟨by rw [h1, h.out], h2⟩
theorem mFold14_is {a b : ByteArray} {q : Bool} {w : World} (ha : a.size ≤ 65536) (hb : b.size ≤ 65536) (h : Box (foldL a.data.toList b.data.toList = q)) :
    Calls Tryz.prog 126 #[.string a, .string b] w fun e w' => e = .returned (.bool q) ∧ Below w.heap.size w w' :=
  (Fold_any a b w (by unfold maxLen; omega) (by unfold maxLen; omega)).mono fun e w' ⟨h1, h2⟩ => ⟨by rw [h1, h.out], h2⟩
theorem mQual0_any (k : Int) (v : ByteArray) (w : World) (hk : InI64 k) (hv : v.size ≤ 20000) :
    Calls Tryz.prog 123 #[.int .i64 k, .string v] w fun e w' => e = .returned (.int .i64 (qual0 k v.data.toList)) ∧ Below w.heap.size w w' := by
  have hv4 : v.size ≤ 65536 := by omega
  have h8 : (⟨#[105, 100, 101, 110, 116, 105, 116, 121]⟩ : ByteArray).size ≤ 65536 := by decide
  by_cases h4 : k = 4
  · subst h4
    cases hf : foldL v.data.toList idenL with
    | false =>
      have HF : Box (foldL v.data.toList (⟨#[105, 100, 101, 110, 116, 105, 116, 121]⟩ : ByteArray).data.toList = false) := box (by rw [iden_lit]; exact hf)
      have HV := box (qual0_off hf)
      clear hf
      go_enter Tryz.func123, Tryz.ntmps123
      go_wp2_with fail
      refine (mFold14_is hv4 h8 HF).mono ?_; rintro e w1 ⟨rfl, hb1⟩
      go_wp2
      go_ret
      exact ⟨by rw [HV.out]; rfl, hb1⟩
    | true =>
      have HF : Box (foldL v.data.toList (⟨#[105, 100, 101, 110, 116, 105, 116, 121]⟩ : ByteArray).data.toList = true) := box (by rw [iden_lit]; exact hf)
      have HV := box (qual0_on hf)
      clear hf
      go_enter Tryz.func123, Tryz.ntmps123
      go_wp2_with fail
      refine (mFold14_is hv4 h8 HF).mono ?_; rintro e w1 ⟨rfl, hb1⟩
      go_wp2
      go_ret
      exact ⟨by rw [HV.out]; rfl, hb1⟩
  · have e4 : (k == 4) = false := by rw [beq_eq_false_iff_ne]; exact h4
    have HV := box (qual0_no (v := v.data.toList) h4)
    clear h4
    go_enter Tryz.func123, Tryz.ntmps123
    go_wp2
    go_ret
    exact ⟨by rw [HV.out]; rfl, Below.refl _ _⟩
theorem mQual0_is {k i : Int} {v : ByteArray} {w : World} (hk : InI64 k) (hv : v.size ≤ 20000) (h : Box (qual0 k v.data.toList = i)) :
    Calls Tryz.prog 123 #[.int .i64 k, .string v] w fun e w' => e = .returned (.int .i64 i) ∧ Below w.heap.size w w' :=
  (mQual0_any k v w hk hv).mono fun e w' ⟨h1, h2⟩ => ⟨by rw [h1, h.out], h2⟩
set_option maxHeartbeats 1000000 in
theorem mQuality_any (k : Int) (a : Option Addr) (cap : Nat) (L : List QP) (present : Bool) (v : ByteArray) (w : World) (hk : InI64 k) (hl : L.length ≤ 65536) (hz : Box (∀ i (hi : i < L.length), L[i].1.size ≤ 20000)) (hv : v.size ≤ 20000) (hF : Box (Qs w a L)) :
    Calls Tryz.prog 82 #[.int .i64 k, .slice a L.length cap, .bool present, .string v] w fun e w' => e = .returned (.int .i64 (qualR k L present v.data.toList)) ∧ Below w.heap.size w w' := by
  cases present with
  | false =>
    go_enter Tryz.func82, Tryz.ntmps82
    go_wp2
    go_ret
    exact ⟨rfl, Below.refl _ _⟩
  | true =>
    obtain ⟨z, hz0⟩ : ∃ z, qual0 k v.data.toList = z := ⟨_, rfl⟩
    have HQ0 := box hz0
    have h0 : Box (QlRel k v.data.toList L w (.int .i64 (-1)) (.int .i64 z) (.int .i64 0) w) := box ⟨-1, z, 0, rfl, rfl, rfl, Nat.zero_le _, by rw [hz0]; rfl, Below.refl _ _⟩
    clear hz0
    go_enter Tryz.func82, Tryz.ntmps82
    go_wp2_with fail
    refine (mQual0_is hk hv HQ0).mono ?_; rintro e w1 ⟨rfl, hb1⟩
    have h1 := box (h0.out.below hb1)
    clear hb1 h0
    go_wp2
    go_loopw [9, 10, 21] (fun q b i wr => QlRel k v.data.toList L w b q i wr) (fun _ _ i _ => L.length - (intOf i).toNat)
    case atStart => exact h1.out
    case round =>
      obtain ⟨x, y, j, rfl, rfl, rfl, hj, hbest, hbel⟩ := hrel
      have HB := box hbest
      have BL := box hbel
      have F1 := box (hF.out.below hbel)
      clear hbest hbel
      by_cases hlt : j < L.length
      · have hji : (j : Int) < (L.length : Int) := by omega
        obtain ⟨p, hp⟩ : ∃ p, L[j] = p := ⟨_, rfl⟩
        have HP := box hp
        have hpz : p.1.size ≤ 20000 := by have := hz.out j hlt; rw [hp] at this; exact this
        obtain ⟨s, hs⟩ : ∃ s, matchP k p.1.data.toList v.data.toList = s := ⟨_, rfl⟩
        have HS := box hs
        obtain ⟨g, off, rfl, c0, c1⟩ := F1.out j hlt
        rw [hp] at c0 c1
        have A1 : Box ((wr.alloc (.cells #[.string p.1, .int .i64 p.2] 55)).cell? ⟨wr.heap.size, 1, none⟩ = some (.int .i64 p.2)) := box (by rw [World.cell?_alloc_mark]; rfl)
        have BA := box (BL.out.alloc BL.out.size (.cells #[.string p.1, .int .i64 p.2] 55))
        clear hs hp
        by_cases hgt : x < s
        · have HN : Box (bestQ k v.data.toList (L.take (j + 1)) (-1, qual0 k v.data.toList) = (s, p.2)) := box (qual_step1 hlt HP.out HB.out HS.out hgt rfl)
          go_wp2_with fail
          refine (mMatch14_is hk hpz hv HS).mono ?_; rintro e w2 ⟨rfl, hb2⟩
          have B2 := box (BA.out.trans (hb2.mono BA.out.size))
          have c2 := (hb2.cell (cell_lt A1.out)).trans A1.out
          clear hb2 c0 c1
          go_wp2
          go_roundw
          case rel => exact ⟨s, p.2, j + 1, rfl, rfl, by go_num, hlt, HN.out, B2.out⟩
          case measure => simp [intOf]; omega
        · have HN : Box (bestQ k v.data.toList (L.take (j + 1)) (-1, qual0 k v.data.toList) = (x, y)) := box (qual_step2 hlt HP.out HB.out HS.out hgt)
          go_wp2_with fail
          refine (mMatch14_is hk hpz hv HS).mono ?_; rintro e w2 ⟨rfl, hb2⟩
          have B2 := box (BA.out.trans (hb2.mono BA.out.size))
          clear hb2 c0 c1
          go_wp2
          go_roundw
          case rel => exact ⟨x, y, j + 1, rfl, rfl, by go_num, hlt, HN.out, B2.out⟩
          case measure => simp [intOf]; omega
      · have hji : ¬ (j : Int) < (L.length : Int) := by omega
        have HV : Box (qualR k L true v.data.toList = y) := box (by
          have hjl : j = L.length := by omega
          subst hjl
          have := HB.out
          rw [List.take_length] at this
          unfold qualR; rw [if_pos rfl, this])
        go_wp2
        go_ret
        exact ⟨by rw [HV.out]; rfl, BL.out⟩
end
section
open Go.RowKit
def InsLev (B : Nat) (T : List TL) (p : Int) (x : ByteArray) (w : World) (e : Ending) (w' : World) : Prop :=
  ∃ v' T', e = .returned v' ∧ Lev w' B v' T' ∧ plT T' = insV p x (plT T) ∧ Below B w w'
theorem split14_at {T : List TL} {k : Nat} (h : k ≤ T.length) : plT T = plT (T.take k) ++ plT (T.drop k) := by
  unfold plT; rw [← List.map_append, List.take_append_drop]
theorem pl_found {T : List TL} {k : Nat} {p : Int} {x : ByteArray} {s : Value} (hk : k < T.length) (h1 : ∀ i (hi : i < T.length), i < k → p < T[i].1) (he : T[k].1 = p) : plT (T.set k (T[k].1, s, T[k].2.2 ++ [x])) = insV p x (plT T) := by
  have e1 : T = T.take k ++ T[k] :: T.drop (k + 1) := by rw [← List.drop_eq_getElem_cons hk, List.take_append_drop]
  have hl : (T.take k).length = k := by rw [List.length_take]; omega
  have e2 : T.set k (T[k].1, s, T[k].2.2 ++ [x]) = T.take k ++ (T[k].1, s, T[k].2.2 ++ [x]) :: T.drop (k + 1) := by
    generalize T[k] = u at e1 ⊢
    conv => lhs; rw [e1]
    rw [List.set_append_right _ _ (by omega), hl, Nat.sub_self]; rfl
  have e3 : plT T = plT (T.take k) ++ (T[k].1, T[k].2.2) :: plT (T.drop (k + 1)) := by
    generalize T[k] = u at e1 ⊢
    conv => lhs; rw [e1]
    unfold plT; rw [List.map_append, List.map_cons]
  have hA : ∀ t ∈ plT (T.take k), p < t.1 := by
    intro t ht
    unfold plT at ht
    obtain ⟨u, hu, rfl⟩ := List.mem_map.1 ht
    obtain ⟨j, hj, rfl⟩ := List.getElem_of_mem hu
    have hjk : j < k := by omega
    rw [List.getElem_take]
    exact h1 j (by omega) hjk
  rw [e2, e3, insV_behind hA, he, insV_old]
  unfold plT; rw [List.map_append, List.map_cons]
theorem pl_new {T : List TL} {k : Nat} {p : Int} {x : ByteArray} {s : Value} (hk : k ≤ T.length) (h1 : ∀ i (hi : i < T.length), i < k → p < T[i].1) (h2 : ∀ i (hi : i < T.length), k ≤ i → T[i].1 ≤ p) (he : ¬ ∃ h : k < T.length, T[k].1 = p) (hD : DescV (plT T)) :
    plT ((putT T k p).set k (p, s, [] ++ [x])) = insV p x (plT T) := by
  have hl : (T.take k).length = k := by rw [List.length_take]; omega
  have e2 : (putT T k p).set k (p, s, [] ++ [x]) = T.take k ++ (p, s, [x]) :: T.drop k := by
    unfold putT
    rw [List.set_append_right _ _ (by omega), hl, Nat.sub_self]; rfl
  have hA : ∀ t ∈ plT (T.take k), p < t.1 := by
    intro t ht
    unfold plT at ht
    obtain ⟨u, hu, rfl⟩ := List.mem_map.1 ht
    obtain ⟨j, hj, rfl⟩ := List.getElem_of_mem hu
    have hjk : j < k := by omega
    rw [List.getElem_take]
    exact h1 j (by omega) hjk
  have hB : ∀ t ∈ plT (T.drop k), t.1 < p := by
    intro t ht
    unfold plT at ht
    obtain ⟨u, hu, rfl⟩ := List.mem_map.1 ht
    obtain ⟨j, hj, rfl⟩ := List.getElem_of_mem hu
    rw [List.getElem_drop]
    have hjl : k + j < T.length := by rw [List.length_drop] at hj; omega
    have hkl : k < T.length := by omega
    have hlt : T[k].1 < p := by
      have := h2 k hkl (Nat.le_refl _)
      rcases Int.lt_or_eq_of_le this with h | h
      · exact h
      · exact absurd ⟨hkl, h⟩ he
    show T[k + j].1 < p
    by_cases h0 : j = 0
    · subst h0; exact hlt
    · have := descV_at hD k (k + j) (by simpa [plT] using hkl) (by simpa [plT] using hjl) (by omega)
      simp only [plT, List.getElem_map] at this
      omega
  rw [e2, split14_at (T := T) hk, insV_behind hA, insV_new hB]
  unfold plT; rw [List.map_append, List.map_cons]
theorem putT_at {T : List TL} {k : Nat} {p : Int} (hk : k ≤ T.length) (h : k < (putT T k p).length) : (putT T k p)[k] = (p, .slice none 0 0, []) := by
  have e : (putT T k p)[k]? = some (p, .slice none 0 0, []) := by
    unfold putT
    rw [List.getElem?_append_right (by rw [List.length_take]; omega)]
    simp [List.length_take, Nat.min_eq_left hk]
  rw [List.getElem?_eq_getElem h] at e
  exact Option.some.inj e
theorem mSearch_is {B : Nat} {a : Option Addr} {n cap : Nat} {T : List TL} {q : Int} {w : World} (hl : T.length ≤ 65536) (hn : Box (T.length = n)) (hD : Box (DescV (plT T))) (hL : Box (Lev w B (.slice a n cap) T)) :
    Calls Tryz.prog 159 #[.slice a n cap, .int .i64 q, .func (.func 160) #[] #[]] w fun e w' => SrchPost q T w e w' := by
  have hT : Ts w a T := by
    obtain ⟨a2, c2, e, h, _⟩ := hL.out.row.ts
    injection e with e1 e2 e3
    subst e1; exact h
  have := mSearch14 a cap T q w hl hD (box hL.out.slices) (box hT)
  rw [hn.out] at this; exact this
set_option maxHeartbeats 1000000 in
theorem mInsLev (B : Nat) (v : Value) (T : List TL) (x : ByteArray) (p : Int) (w : World) (hl : T.length < 65536) (hvl : Box (∀ t ∈ T, t.2.2.length ≤ 65535)) (hD : Box (DescV (plT T))) (hL : Box (Lev w B v T)) (hB : B ≤ w.heap.size) :
    Calls Tryz.prog 133 #[v, .string x, .int .i64 p] w fun e w' => InsLev B T p x w e w' := by
  obtain ⟨a, c, rfl, _, hc⟩ := hL.out.row.ts
  obtain ⟨n, hn⟩ : ∃ n, T.length = n := ⟨_, rfl⟩
  have HN := box hn
  rw [hn] at hL hc ⊢
  have hl' : T.length ≤ 65536 := by omega
  clear hn
  go_enter Tryz.func133, Tryz.ntmps133
  go_wp2_with fail
  refine (mSearch_is hl' HN hD hL).mono ?_; rintro e w1 ⟨k, f, rfl, hk, h1, h2, hf, hb1⟩
  cases f with
  | true =>
    obtain ⟨hkT, he⟩ := hf.1 rfl
    have B1 := box (hb1.mono hB)
    have L1 := box ((hL.out.below hb1))
    have HPL := box (fun s => pl_found (x := x) (s := s) hkT h1 he)
    have HE := box he
    clear hb1 h1 h2 hf he
    obtain ⟨b, hab⟩ : ∃ b, a = some ⟨b, 0, none⟩ := by
      obtain ⟨g, cp, e, _⟩ := World.ownsRow.form L1.out.row (Nat.lt_of_le_of_lt (Nat.zero_le _) hkT)
      injection e with e1
      exact ⟨g, e1⟩
    subst hab
    obtain ⟨VS, hVS⟩ : ∃ VS, T[k].2.2 = VS := ⟨_, rfl⟩
    obtain ⟨sa, sn, sc, hs, hsn⟩ : ∃ sa sn sc, T[k].2.1 = .slice sa sn sc ∧ VS.length = sn := by
      obtain ⟨a2, c2, e, _, _⟩ := L1.out.slice (List.getElem_mem hkT)
      exact ⟨a2, _, c2, e, by rw [hVS]⟩
    have hsl : sn ≤ 65536 := by
      have := hvl.out _ (List.getElem_mem hkT); rw [hVS] at this; omega
    have hki : (k : Int) < (n : Int) := by have := HN.out; omega
    obtain ⟨g0, off0, ea, c0, c1⟩ : ∃ g off, (some ⟨b, 0, none⟩ : Option Addr) = some ⟨g, off, none⟩ ∧ w1.cell? ⟨g, off + k * 2, none⟩ = some (.int .i64 T[k].1) ∧ w1.cell? ⟨g, off + k * 2 + 1, none⟩ = some T[k].2.1 := by
      obtain ⟨a2, c2, e, h, _⟩ := L1.out.row.ts
      injection e with e1 e2 e3
      subst e1; exact h k hkT
    injection ea with ea
    injection ea with ea eo _
    subst ea; subst eo
    rw [Nat.zero_add] at c0 c1
    rw [hs] at c1
    have fz : w1.frozen? ⟨b, k * 2 + 1, none⟩ = false := by
      rcases L1.out.row.2 with ⟨h, _⟩ | ⟨g, cap2, cur, hv, _, hg, _⟩
      · cases h
      · injection hv with e1
        injection e1 with e1
        injection e1 with e1
        subst e1
        simp [World.frozen?, hg]
    have hbW : b < w1.heap.size := cell_lt c1
    have LA := box (L1.out.below (below_new w1 (.cells #[.string x] 9)))
    have hbne : some b ≠ (Value.slice sa sn sc).ownBlock := by
      intro e
      exact lev_ne L1.out.row (L1.out.vals _ (List.getElem_mem hkT)) (k := b) rfl (by rw [hs]; exact e.symm)
    have OS : Box (OwnS (w1.alloc (.cells #[.string x] 9)) B (.slice sa sn sc) VS) := box (by
      have := LA.out.vals _ (List.getElem_mem hkT); rw [hs, hVS] at this; exact this)
    have BW : Box (Below B w (w1.alloc (.cells #[.string x] 9))) := box ((B1.out.alloc (Nat.le_trans hB B1.out.size) _))
    have hB1 : B ≤ (w1.alloc (.cells #[.string x] 9)).heap.size := Nat.le_trans hB BW.out.size
    have C2 : Box ((w1.alloc (.cells #[.string x] 9)).cell? ⟨b, k * 2 + 1, none⟩ = some (.slice sa sn sc)) := box ((World.cell?_alloc_past (w := w1) _ b _ hbW).trans c1)
    have Z2 : Box ((w1.alloc (.cells #[.string x] 9)).frozen? ⟨b, k * 2 + 1, none⟩ = false) := box ((World.frozen?_alloc_past (w := w1) _ b _ hbW).trans fz)
    have hbA : b < (w1.alloc (.cells #[.string x] 9)).heap.size := by simp; omega
    have A0 : Box ((w1.alloc (.cells #[.string x] 9)).cell? ⟨w1.heap.size, 0, none⟩ = some (.string x)) := box (World.cell?_alloc_at _ _ _ _ rfl)
    have PUT : Box (∀ g m cap wz vs, (w1.alloc (.cells #[.string x] 9)).grownBy wz (Value.slice sa sn sc).ownBlock → OwnS wz B (.slice (some ⟨g, 0, none⟩) m cap) vs → ((Value.slice sa sn sc).ownBlock = some g ∨ g = (w1.alloc (.cells #[.string x] 9)).heap.size) → Lev (wz.setCell ⟨b, k * 2 + 1, none⟩ (.slice (some ⟨g, 0, none⟩) m cap)) B (.slice (some ⟨b, 0, none⟩) n c) (T.set k (T[k].1, .slice (some ⟨g, 0, none⟩) m cap, vs)) ∧ Below B w (wz.setCell ⟨b, k * 2 + 1, none⟩ (.slice (some ⟨g, 0, none⟩) m cap))) := box (fun g m cap wz vs h1 h2 h3 => by
      obtain ⟨q1, q2⟩ := lev_put (cur := #[]) LA.out hkT (by rw [hs]; exact h1) h2 (by rw [hs]; exact h3)
      exact ⟨q1, BW.out.trans (q2.mono (Nat.le_refl _))⟩)
    have HVS := box hVS
    clear hVS hs c0 fz
    go_wp2_with (at_builtin; refine wpList_append_strL _ rfl _ _ rfl B sn (.slice sa sn sc) VS rfl OS.out hsn w1.heap.size 1 rfl x A0.out hsl hB1 ?_; intro g' cap' w9 hO2 hg2 hat; have f1 := (World.grownBy.cell_far hg2 ⟨b, k * 2 + 1, none⟩ hbA hbne).trans C2.out; have f2 := (World.grownBy.frozen_far hg2 ⟨b, k * 2 + 1, none⟩ hbA hbne).trans Z2.out)
    go_ret
    obtain ⟨q1, q2⟩ := PUT.out g' (sn + 1) cap' w9 (VS ++ [x]) hg2 hO2 hat
    exact ⟨_, _, rfl, q1, by rw [← HVS.out]; exact HPL.out _, q2⟩
  | false =>
    have hf0 : ¬ ∃ h : k < T.length, T[k].1 = p := fun h => by have := hf.2 h; cases this
    have HPL := box (fun s => pl_new (x := x) (s := s) hk h1 h2 hf0 hD.out)
    have L1 := box ((hL.out.below hb1))
    have B1 := box (hb1.mono hB)
    have LB := box (L1.out.below (below_new w1 (.cells #[.int .i64 p, .slice none 0 0] 142)))
    have hne : (Value.slice a n c).ownBlock ≠ some w1.heap.size := fun e => by
      have := (L1.out.row.lt _ e).2; omega
    have hBI : B ≤ (w1.alloc (.cells #[.int .i64 p, .slice none 0 0] 142)).heap.size := by
      have := hb1.size; simp; omega
    have SL := box LB.out.slices
    have HV : Box ((w1.alloc (.cells #[.int .i64 p, .slice none 0 0] 142)).heap[w1.heap.size]? = some (.cells #[.int .i64 p, .slice none 0 0] 142 (0, 0))) := box (heap_alloc_new w1 _)
    have OT := box LB.out.row
    clear hb1 h1 h2 hf hf0
    go_wp2_with fail
    refine (mInsert14 B (.slice a n c) T k w1.heap.size 1 p _ SL hl' hk OT hBI hne HV).mono ?_; rintro e w2 ⟨v2, rfl, hO2, hg2⟩
    have L2 := box (lev_ins LB.out hg2 hO2)
    have B2 : Box (Below B w w2) := box ((B1.out.alloc (Nat.le_trans hB B1.out.size) (.cells #[.int .i64 p, .slice none 0 0] 142)).grown hg2 hBI (fun q hq => (LB.out.row.lt q hq).1))
    have hkT : k < (putT T k p).length := by rw [putT_len T k p hk]; omega
    have hTk := putT_at (p := p) hk hkT
    have HQL : Box (∀ s, plT ((putT T k p).set k ((putT T k p)[k].1, s, (putT T k p)[k].2.2 ++ [x])) = insV p x (plT T)) := box (fun s => by rw [hTk]; exact HPL.out s)
    have hvl3 : Box (∀ t ∈ putT T k p, t.2.2.length ≤ 65535) := box (fun t ht => by
      unfold putT at ht
      rcases List.mem_append.1 ht with h | h
      · exact hvl.out t (List.mem_of_mem_take h)
      · rcases List.mem_cons.1 h with rfl | h
        · exact Nat.zero_le _
        · exact hvl.out t (List.mem_of_mem_drop h))
    obtain ⟨a2, c2, rfl, _, _⟩ := L2.out.row.ts
    clear HPL hTk hO2 hg2 LB hne hBI SL HV OT
    generalize putT T k p = T2 at hkT HQL hvl3 L2 ⊢
    obtain ⟨n2, hn2⟩ : ∃ n2, T2.length = n2 := ⟨_, rfl⟩
    have HN2 := box hn2
    rw [hn2] at L2 ⊢
    clear hn2
    obtain ⟨b, hab⟩ : ∃ b, a2 = some ⟨b, 0, none⟩ := by
      obtain ⟨g, cp, e, _⟩ := World.ownsRow.form L2.out.row (Nat.lt_of_le_of_lt (Nat.zero_le _) hkT)
      injection e with e1
      exact ⟨g, e1⟩
    subst hab
    obtain ⟨VS, hVS⟩ : ∃ VS, T2[k].2.2 = VS := ⟨_, rfl⟩
    obtain ⟨sa, sn, sc, hs, hsn⟩ : ∃ sa sn sc, T2[k].2.1 = .slice sa sn sc ∧ VS.length = sn := by
      obtain ⟨a2, c2, e, _, _⟩ := L2.out.slice (List.getElem_mem hkT)
      exact ⟨a2, _, c2, e, by rw [hVS]⟩
    have hsl : sn ≤ 65536 := by
      have := hvl3.out _ (List.getElem_mem hkT); rw [hVS] at this; omega
    have hki : (k : Int) < (n2 : Int) := by have := HN2.out; omega
    obtain ⟨g0, off0, ea, c0, c1⟩ : ∃ g off, (some ⟨b, 0, none⟩ : Option Addr) = some ⟨g, off, none⟩ ∧ w2.cell? ⟨g, off + k * 2, none⟩ = some (.int .i64 T2[k].1) ∧ w2.cell? ⟨g, off + k * 2 + 1, none⟩ = some T2[k].2.1 := by
      obtain ⟨a2, c2, e, h, _⟩ := L2.out.row.ts
      injection e with e1 e2 e3
      subst e1; exact h k hkT
    injection ea with ea
    injection ea with ea eo _
    subst ea; subst eo
    rw [Nat.zero_add] at c0 c1
    rw [hs] at c1
    have fz : w2.frozen? ⟨b, k * 2 + 1, none⟩ = false := by
      rcases L2.out.row.2 with ⟨h, _⟩ | ⟨g, cap2, cur, hv, _, hg, _⟩
      · cases h
      · injection hv with e1
        injection e1 with e1
        injection e1 with e1
        subst e1
        simp [World.frozen?, hg]
    have hbW : b < w2.heap.size := cell_lt c1
    have LA := box (L2.out.below (below_new w2 (.cells #[.string x] 9)))
    have hbne : some b ≠ (Value.slice sa sn sc).ownBlock := by
      intro e
      exact lev_ne L2.out.row (L2.out.vals _ (List.getElem_mem hkT)) (k := b) rfl (by rw [hs]; exact e.symm)
    have OS : Box (OwnS (w2.alloc (.cells #[.string x] 9)) B (.slice sa sn sc) VS) := box (by
      have := LA.out.vals _ (List.getElem_mem hkT); rw [hs, hVS] at this; exact this)
    have BW : Box (Below B w (w2.alloc (.cells #[.string x] 9))) := box ((B2.out.alloc (Nat.le_trans hB B2.out.size) _))
    have hB2 : B ≤ (w2.alloc (.cells #[.string x] 9)).heap.size := Nat.le_trans hB BW.out.size
    have C2 : Box ((w2.alloc (.cells #[.string x] 9)).cell? ⟨b, k * 2 + 1, none⟩ = some (.slice sa sn sc)) := box ((World.cell?_alloc_past (w := w2) _ b _ hbW).trans c1)
    have Z2 : Box ((w2.alloc (.cells #[.string x] 9)).frozen? ⟨b, k * 2 + 1, none⟩ = false) := box ((World.frozen?_alloc_past (w := w2) _ b _ hbW).trans fz)
    have hbA : b < (w2.alloc (.cells #[.string x] 9)).heap.size := by simp; omega
    have A0 : Box ((w2.alloc (.cells #[.string x] 9)).cell? ⟨w2.heap.size, 0, none⟩ = some (.string x)) := box (World.cell?_alloc_at _ _ _ _ rfl)
    have PUT : Box (∀ g m cap wz vs, (w2.alloc (.cells #[.string x] 9)).grownBy wz (Value.slice sa sn sc).ownBlock → OwnS wz B (.slice (some ⟨g, 0, none⟩) m cap) vs → ((Value.slice sa sn sc).ownBlock = some g ∨ g = (w2.alloc (.cells #[.string x] 9)).heap.size) → Lev (wz.setCell ⟨b, k * 2 + 1, none⟩ (.slice (some ⟨g, 0, none⟩) m cap)) B (.slice (some ⟨b, 0, none⟩) n2 c2) (T2.set k (T2[k].1, .slice (some ⟨g, 0, none⟩) m cap, vs)) ∧ Below B w (wz.setCell ⟨b, k * 2 + 1, none⟩ (.slice (some ⟨g, 0, none⟩) m cap))) := box (fun g m cap wz vs h1 h2 h3 => by
      obtain ⟨q1, q2⟩ := lev_put (cur := #[]) LA.out hkT (by rw [hs]; exact h1) h2 (by rw [hs]; exact h3)
      exact ⟨q1, BW.out.trans (q2.mono (Nat.le_refl _))⟩)
    have HVS := box hVS
    clear hVS hs c0 fz
    go_wp2_with (at_builtin; refine wpList_append_strL _ rfl _ _ rfl B sn (.slice sa sn sc) VS rfl OS.out hsn w2.heap.size 1 rfl x A0.out hsl hB2 ?_; intro g' cap' w9 hO2 hg2 hat; have f1 := (World.grownBy.cell_far hg2 ⟨b, k * 2 + 1, none⟩ hbA hbne).trans C2.out; have f2 := (World.grownBy.frozen_far hg2 ⟨b, k * 2 + 1, none⟩ hbA hbne).trans Z2.out)
    go_ret
    obtain ⟨q1, q2⟩ := PUT.out g' (sn + 1) cap' w9 (VS ++ [x]) hg2 hO2 hat
    exact ⟨_, _, rfl, q1, by rw [← HVS.out]; exact HQL.out _, q2⟩
def flatT (T : List TL) : List ByteArray := T.flatMap (·.2.2)
theorem flatT_pl (T : List TL) : flatT T = flatV (plT T) := by
  unfold flatT flatV plT; rw [List.flatMap_map]
theorem flatT_next {T : List TL} {j : Nat} (h : j < T.length) : flatT (T.take (j + 1)) = flatT (T.take j) ++ T[j].2.2 := by
  rw [List.take_succ_eq_append_getElem h]; unfold flatT; rw [List.flatMap_append]; simp
theorem flatT_le {T : List TL} {j : Nat} : (flatT (T.take j)).length ≤ (flatT T).length := by
  conv => rhs; rw [← List.take_append_drop j T]
  unfold flatT; rw [List.flatMap_append, List.length_append]; omega
theorem flatT_mem {T : List TL} {t : TL} (h : t ∈ T) : t.2.2.length ≤ (flatT T).length := by
  induction T with
  | nil => cases h
  | cons u T ih =>
    have e : flatT (u :: T) = u.2.2 ++ flatT T := rfl
    rw [e, List.length_append]
    rcases List.mem_cons.1 h with rfl | h
    · omega
    · have := ih h; omega
def RkRel (qf : ByteArray → Int) (V : List ByteArray) (W : World) (v i : Value) (wr : World) : Prop :=
  ∃ (T : List TL) (j : Nat), i = .int .i64 j ∧ j ≤ V.length ∧ Lev wr W.heap.size v T ∧ plT T = rankV qf (V.take j) ∧ Below W.heap.size W wr
def RfRel (T : List TL) (W : World) (r i : Value) (wr : World) : Prop :=
  ∃ j : Nat, i = .int .i64 j ∧ j ≤ T.length ∧ OwnS wr W.heap.size r (flatT (T.take j)) ∧ Below W.heap.size W wr
/-- what is known of the levels of the first j values -/
theorem rk_facts {qf : ByteArray → Int} {V : List ByteArray} {T : List TL} {j : Nat} (hj : j ≤ V.length) (h : plT T = rankV qf (V.take j)) : DescV (plT T) ∧ T.length ≤ j ∧ (flatT T).length ≤ j ∧ flatT T = rankQ qf (V.take j) ∧ ∀ t ∈ T, 0 < t.2.2.length := by
  obtain ⟨h1, h2, h3⟩ := rankV_all (q := qf) (V.take j).length (V.take j) rfl
  have hl : (V.take j).length = j := by rw [List.length_take]; omega
  have hp : (plT T).length = T.length := by unfold plT; simp
  refine ⟨by rw [h]; exact h1, ?_, ?_, ?_, fun t ht => ?_⟩
  · rw [← hp, h]; have := rankV_len (V := V.take j) (q := qf); omega
  · rw [flatT_pl, h]; have := flatV_len (V := V.take j) (q := qf); omega
  · rw [flatT_pl, h, h3]
  · have hm : (t.1, t.2.2) ∈ plT T := List.mem_map.2 ⟨t, ht, rfl⟩
    rw [h] at hm
    exact List.length_pos_iff.2 (h2 _ hm).1
theorem mQuality_is2 {k i : Int} {a : Option Addr} {cap : Nat} {L : List QP} {present : Bool} {v : ByteArray} {w : World} (hk : InI64 k) (hl : L.length ≤ 65536) (hz : Box (∀ i (hi : i < L.length), L[i].1.size ≤ 20000)) (hv : v.size ≤ 20000) (hF : Qs w a L) (h : Box (qualR k L present v.data.toList = i)) :
    Calls Tryz.prog 82 #[.int .i64 k, .slice a L.length cap, .bool present, .string v] w fun e w' => e = .returned (.int .i64 i) ∧ Below w.heap.size w w' := by
  have := mQuality_any k a cap L present v w hk hl hz hv (box hF)
  rw [h.out] at this; exact this
theorem mInsLev_is {B n c : Nat} {a : Option Addr} {T : List TL} {x : ByteArray} {p : Int} {w : World} (hl : T.length < 65536) (hvl : Box (∀ t ∈ T, t.2.2.length ≤ 65535)) (hD : Box (DescV (plT T))) (hL : Lev w B (.slice a n c) T) (hB : B ≤ w.heap.size) :
    Calls Tryz.prog 133 #[.slice a n c, .string x, .int .i64 p] w fun e w' => InsLev B T p x w e w' := mInsLev B _ T x p w hl hvl hD (box hL) hB
def RkPost (R : List ByteArray) (w : World) (e : Ending) (w' : World) : Prop := ∃ v, e = .returned v ∧ OwnS w' w.heap.size v R ∧ Below w.heap.size w w'
set_option maxHeartbeats 1000000 in
theorem mRank0_any (k : Int) (a b : Option Addr) (cap cb : Nat) (L : List QP) (present : Bool) (V : List ByteArray) (w : World) (hk : InI64 k) (hl : L.length ≤ 65536) (hz : Box (∀ i (hi : i < L.length), L[i].1.size ≤ 20000)) (hvl : V.length ≤ 65536) (hvz : Box (∀ i (hi : i < V.length), V[i].size ≤ 20000)) (hF : Box (Qs w a L)) (hS : Box (Ss w b V)) :
    Calls Tryz.prog 108 #[.int .i64 k, .slice a L.length cap, .bool present, .slice b V.length cb] w fun e w' => RkPost (rankQ (fun v => qualR k L present v.data.toList) V) w e w' := by
  obtain ⟨qf, hqf⟩ : ∃ qf : ByteArray → Int, (fun v => qualR k L present v.data.toList) = qf := ⟨_, rfl⟩
  have HQF : Box (∀ v : ByteArray, qualR k L present v.data.toList = qf v) := box (fun v => by rw [← hqf])
  rw [hqf]
  clear hqf
  go_enter Tryz.func108, Tryz.ntmps108
  go_wp2
  go_loopw [9, 18] (fun v i wr => RkRel qf V w v i wr) (fun _ i _ => V.length - (intOf i).toNat)
  case atStart => exact ⟨[], 0, rfl, Nat.zero_le _, Lev.nil _ _, rfl, Below.refl _ _⟩
  case round =>
    obtain ⟨T, j, rfl, hj, hL, hp, hbel⟩ := hrel
    have LV := box hL
    have HP := box hp
    have BL := box hbel
    have HK := box (rk_facts hj hp)
    obtain ⟨sa, sc, rfl, _, hsc⟩ := hL.row.ts
    obtain ⟨n, hn⟩ : ∃ n, T.length = n := ⟨_, rfl⟩
    have HN := box hn
    rw [hn] at LV hsc ⊢
    clear hL hp hbel hn
    by_cases hlt : j < V.length
    · have hji : (j : Int) < (V.length : Int) := by omega
      obtain ⟨x, hx⟩ : ∃ x, V[j] = x := ⟨_, rfl⟩
      have hxz : x.size ≤ 20000 := by have := hvz.out j hlt; rw [hx] at this; exact this
      obtain ⟨g, off, rfl, c0⟩ := (hS.out.below BL.out) j hlt
      rw [hx] at c0
      have HX := box hx
      have Q1 := box (hF.out.below BL.out)
      obtain ⟨z, hz1⟩ : ∃ z, qf x = z := ⟨_, rfl⟩
      have HZ : Box (qualR k L present x.data.toList = z) := box ((HQF.out x).trans hz1)
      have HN1 : Box (rankV qf (V.take (j + 1)) = stepV qf (rankV qf (V.take j)) x) := box (by rw [rankV_next hlt, hx])
      have HZ1 := box hz1
      clear hx hz1
      by_cases hpos : 0 < z
      · have HI : Box (insV z x (plT T) = rankV qf (V.take (j + 1))) := box (by
          rw [HN1.out, HP.out]; unfold stepV; rw [HZ1.out, if_pos hpos])
        go_wp2_with fail
        refine (mQuality_is2 hk hl hz hxz Q1.out HZ).mono ?_; rintro e w2 ⟨rfl, hb2⟩
        have L2 := box (LV.out.below hb2)
        have B2 := box (BL.out.trans (hb2.mono BL.out.size))
        have hB2 : w.heap.size ≤ w2.heap.size := B2.out.size
        have hTl : T.length < 65536 := by have := HK.out.2.1; omega
        have HVL : Box (∀ t ∈ T, t.2.2.length ≤ 65535) := box (fun t ht => by have := flatT_mem ht; have := HK.out.2.2.1; omega)
        have HD := box HK.out.1
        clear hb2 c0
        go_wp2_with fail
        refine (mInsLev_is hTl HVL HD L2.out hB2).mono ?_; rintro e w3 ⟨v3, T3, rfl, hL3, hp3, hb3⟩
        have B3 := box (B2.out.trans hb3)
        have L3 := box hL3
        have HP3 := box (hp3.trans HI.out)
        clear hb3 hL3 hp3
        go_wp2
        go_roundw
        case rel => exact ⟨T3, j + 1, by go_num, hlt, L3.out, HP3.out, B3.out⟩
        case measure => simp [intOf]; omega
      · have HI : Box (plT T = rankV qf (V.take (j + 1))) := box (by
          rw [HN1.out, HP.out]; unfold stepV; rw [HZ1.out, if_neg hpos])
        go_wp2_with fail
        refine (mQuality_is2 hk hl hz hxz Q1.out HZ).mono ?_; rintro e w2 ⟨rfl, hb2⟩
        have L2 := box (LV.out.below hb2)
        have B2 := box (BL.out.trans (hb2.mono BL.out.size))
        clear hb2 c0
        go_wp2
        go_roundw
        case rel => exact ⟨T, j + 1, by go_num, hlt, L2.out, HI.out, B2.out⟩
        case measure => simp [intOf]; omega
    · have hji : ¬ (j : Int) < (V.length : Int) := by omega
      have HR : Box (flatT T = rankQ qf V) := box (by
        have hjl : j = V.length := by omega
        subst hjl
        have := HK.out.2.2.2.1
        rw [List.take_length] at this; exact this)
      have hfl : (flatT T).length ≤ 65536 := by have := HK.out.2.2.1; omega
      have hTl : T.length ≤ 65536 := by have := HK.out.2.1; omega
      obtain ⟨wo, rfl⟩ : ∃ wo, wo = wr := ⟨_, rfl⟩
      go_wp2
      go_loopw [13, 36] (fun r i w5 => RfRel T wo r i w5) (fun _ i _ => T.length - (intOf i).toNat)
      case atStart => exact ⟨0, rfl, Nat.zero_le _, OwnS.nil _ _, Below.refl _ _⟩
      case round =>
        obtain ⟨m, rfl, hm, hO, hb5⟩ := hrel
        have B5 := box hb5
        have BA := box (BL.out.trans (hb5.mono BL.out.size))
        have L5 := box (LV.out.below hb5)
        have O5 := box hO
        have hs5 := hb5.size
        obtain ⟨ra, rc, rfl, hSr, _⟩ := hO.ss
        have SR := box hSr
        obtain ⟨rn, hrn⟩ : ∃ rn, (flatT (T.take m)).length = rn := ⟨_, rfl⟩
        have HRN := box hrn
        have hrl : rn ≤ 65536 := by have := flatT_le (T := T) (j := m); omega
        rw [hrn] at O5 ⊢
        clear hO hb5 hSr hrn
        by_cases hmt : m < T.length
        · have hmi : (m : Int) < (n : Int) := by have := HN.out; omega
          obtain ⟨vs, hvs⟩ : ∃ vs, T[m].2.2 = vs := ⟨_, rfl⟩
          obtain ⟨qa, hqa⟩ : ∃ qa, T[m].1 = qa := ⟨_, rfl⟩
          obtain ⟨va, vn, vc, hv2, hvn, hSv⟩ : ∃ va vn vc, T[m].2.1 = .slice va vn vc ∧ vs.length = vn ∧ Ss wr va vs := by
            obtain ⟨a2, c2, e, h, _⟩ := L5.out.slice (List.getElem_mem hmt)
            exact ⟨a2, _, c2, by rw [e, hvs], rfl, by rw [← hvs]; exact h⟩
          have hv0 : 0 < vn := by have := HK.out.2.2.2.2 _ (List.getElem_mem hmt); rw [hvs] at this; omega
          have hvn6 : vn ≤ 65536 := by have := flatT_mem (List.getElem_mem hmt); rw [hvs] at this; omega
          obtain ⟨pa, rfl⟩ : ∃ pa, va = some pa := by
            obtain ⟨g, off, e, _⟩ := hSv 0 (by omega)
            exact ⟨_, e⟩
          obtain ⟨g, off, rfl, c0, c1⟩ : ∃ g off, sa = some ⟨g, off, none⟩ ∧ wr.cell? ⟨g, off + m * 2, none⟩ = some (.int .i64 T[m].1) ∧ wr.cell? ⟨g, off + m * 2 + 1, none⟩ = some T[m].2.1 := by
            obtain ⟨a2, c2, e, h, _⟩ := L5.out.row.ts
            injection e with e1 e2 e3
            subst e1; exact h m hmt
          rw [hqa] at c0
          rw [hv2] at c1
          have HM : Box (flatT (T.take (m + 1)) = flatT (T.take m) ++ vs) := box (by rw [flatT_next hmt, hvs])
          have OA : Box (OwnS (wr.alloc (.cells #[.int .i64 qa, .slice (some pa) vn vc] 142)) wo.heap.size (.slice ra rn rc) (flatT (T.take m))) := box (own_below O5.out (below_new _ _))
          have SV := box (hSv.below (below_new wr (.cells #[.int .i64 qa, .slice (some pa) vn vc] 142)))
          have B6 := box (B5.out.alloc hs5 (.cells #[.int .i64 qa, .slice (some pa) vn vc] 142))
          have hs6 := B6.out.size
          have hrl2 : (flatT (T.take m)).length ≤ 65536 := by have := HRN.out; omega
          clear hvs hqa hv2 hSv
          go_wp2_with (at_builtin; refine wpList_append_strs _ rfl _ _ rfl wo.heap.size (.slice ra rn rc) (flatT (T.take m)) rfl OA.out vs pa vn vc rfl hvn SV.out hv0 hrl2 hvn6 hs6 ?_; intro v7 w7 hO7 hb7)
          have B7 := box (B6.out.trans hb7)
          have O7 : Box (OwnS w7 wo.heap.size v7 (flatT (T.take (m + 1)))) := box (by rw [HM.out]; exact hO7)
          clear hO7 hb7
          go_wp2
          go_roundw
          case rel => exact ⟨m + 1, by go_num, hmt, O7.out, B7.out⟩
          case measure => simp [intOf]; omega
        · have hmi : ¬ (m : Int) < (n : Int) := by have := HN.out; omega
          have HF : Box (flatT (T.take m) = rankQ qf V) := box (by
            have : m = T.length := by omega
            subst this
            rw [List.take_length]; exact HR.out)
          go_wp2
          go_ret
          exact ⟨.slice ra rn rc, rfl, by rw [← HF.out]; exact Go.Joins.ownsRow_le O5.out BL.out.size, BA.out⟩
end
section
open Go.RowKit Go.Maps
theorem lawStr : Keyed Tryz.prog 9 := string_keyed Tryz.underlying9
theorem zeroB15 (w : World) : (zeroValue 4).run Tryz.prog w = .ok (.bool false) w := by kernel_rfl
def skey (s : ByteArray) : Lit := .string s.data.toList
theorem skey_of {s : ByteArray} (h : s.size ≤ maxLen) : keyOf Tryz.prog 9 (.string s) = some (skey s) := by
  simp [keyOf, mapKey, Tryz.underlying9, h, skey]
theorem skey_ne {s t : ByteArray} (h : s ≠ t) : skey s ≠ skey t := by
  unfold skey
  intro e
  refine h ?_
  have : s.data.toList = t.data.toList := by simpa using e
  rw [bs_of s, bs_of t, this]
/-- block b is a set of at most n strings: those of which S says so -/
def SSet (w : World) (b n : Nat) (S : ByteArray → Bool) : Prop :=
  ∃ D : DataW Unit, w.ownsMap Tryz.prog 9 (plainElem Tryz.prog 4) b n D ∧ ∀ s, s.size ≤ maxLen → D.atKey (skey s) (.lit (.bool false)) = .lit (.bool (S s))
def noS : ByteArray → Bool := fun _ => false
def andS (S : ByteArray → Bool) (s : ByteArray) : ByteArray → Bool := fun x => S x || decide (x = s)
theorem SSet.made (w : World) : SSet (w.alloc (.map #[] 0)) w.heap.size 0 noS :=
  ⟨_, World.ownsMap_made _ _ _ _, fun s _ => Maps.atKey_of_not_has (by simp [Maps.has]) _⟩
section
variable {w w' : World} {b n : Nat} {S : ByteArray → Bool}
theorem SSet.below {B : Nat} (h : SSet w b n S) (hb : Below B w w') (hB : b < B) : SSet w' b n S := by
  obtain ⟨D, ⟨es, clock, h1, r⟩, h2⟩ := h
  exact ⟨D, ⟨es, clock, (hb.block b hB).trans h1, r⟩, h2⟩
theorem SSet.lt (h : SSet w b n S) : b < w.heap.size := by obtain ⟨D, h1, h2⟩ := h; exact h1.lt
theorem SSet.mono {m : Nat} (h : SSet w b n S) (hm : n ≤ m) : SSet w b m S := by obtain ⟨D, h1, h2⟩ := h; exact ⟨D, h1.mono hm, h2⟩
theorem SSet.same {T : ByteArray → Bool} (h : SSet w b n S) (hT : ∀ s, S s = T s) : SSet w b n T := by
  obtain ⟨D, h1, h2⟩ := h
  exact ⟨D, h1, fun s hs => by rw [h2 s hs, hT]⟩
theorem SSet.put {s : ByteArray} (h : SSet w b n S) (hs : s.size ≤ maxLen) (hn : n < maxLen) :
    ∃ w', (Instr.mapUpdate 91 (.map (some b)) (.string s) (.bool true)).run Tryz.prog w = .ok () w' ∧ SSet w' b (n + 1) (andS S s) ∧ w.grownBy w' (some b) := by
  obtain ⟨D, h1, h2⟩ := h
  obtain ⟨w', r1, r2, r3⟩ := h1.update lawStr Tryz.underlying91 hn (skey_of hs) (plainElem_bool Tryz.underlying4 true)
  refine ⟨w', r1, ⟨_, r2, fun t ht => ?_⟩, r3⟩
  by_cases e : t = s
  · subst e
    rw [Maps.atKey_put_same h1.isMap (lawStr.key (skey_of hs))]
    simp [andS]
  · rw [Maps.atKey_put_other (skey_ne e), h2 t ht]
    simp [andS, e]
theorem SSet.look {s : ByteArray} (h : SSet w b n S) (hs : s.size ≤ maxLen) :
    (Instr.lookup 91 (.map (some b)) (.string s) false).run Tryz.prog w = .ok (.bool (S s)) w := by
  obtain ⟨D, h1, h2⟩ := h
  obtain ⟨v, ps, hrun, hv⟩ := h1.lookup lawStr Tryz.underlying91 (zeroB15 w) (plainElem_bool Tryz.underlying4 false) (skey_of hs)
  rw [h2 s hs] at hv
  rw [hrun]
  have : v = .bool (S s) := by
    unfold plainElem at hv
    rw [Tryz.underlying4] at hv
    cases v <;> simp at hv
    rw [hv.1]
  rw [this]
end
theorem makeMap15 (w : World) : (Instr.makeMap 91 none).run Tryz.prog w = .ok (.map (some w.heap.size)) (w.alloc (.map #[] 0)) := by
  simp [Instr.makeMap, run_underlying Tryz.underlying91, Result.andThen]
theorem andS_in {S : ByteArray → Bool} {s : ByteArray} (h : S s = true) : ∀ x, S x = andS S s x := by
  intro x
  unfold andS
  by_cases e : x = s
  · subst e; rw [h]; simp
  · simp [e]
/-- add: was the string not there? behind it, it is -/
theorem add_any (b n : Nat) (S : ByteArray → Bool) (s : ByteArray) (q : Bool) (w : World) (hs : s.size ≤ maxLen) (hn : n < maxLen) (h : Box (SSet w b n S)) (hq : Box (S s = q)) :
    Calls Tryz.prog 68 #[.map (some b), .string s] w fun e w' => e = .returned (.bool (!q)) ∧ SSet w' b (n + 1) (andS S s) ∧ Below b w w' := by
  have hL := h.out.look hs
  obtain ⟨w2, hP, hS2, hg⟩ := h.out.put hs hn
  rw [hq.out] at hL
  have H2 := box (And.intro hS2 hg)
  clear hS2 hg
  cases q with
  | true =>
    go_enter Tryz.func68, Tryz.ntmps68
    go_wp2
    go_ret
    exact ⟨rfl, (h.out.same (andS_in hq.out)).mono (Nat.le_succ _), Below.refl _ _⟩
  | false =>
    go_enter Tryz.func68, Tryz.ntmps68
    go_wp2
    go_ret
    exact ⟨rfl, H2.out.1, (Below.refl _ _).grown H2.out.2 (Nat.le_of_lt h.out.lt) (fun k hk => by cases hk; exact Nat.le_refl _)⟩
end
section
open Go.RowKit
/-- what values that are the Same have in common -/
def formF (n x : ByteArray) : ByteArray :=
  if kindN n = 1 ∨ kindN n = 2 then bs (lowL x.data.toList) else if kindN n = 3 ∨ kindN n = 4 then bs (canL (kindN n) x.data.toList) else x
theorem form_same (n x y : ByteArray) : sameV n x y = decide (formF n x = formF n y) := by
  unfold sameV formF
  split
  · unfold foldL
    exact decide_eq_decide.2 ⟨fun h => by rw [h], fun h => bs_inj h⟩
  · split
    · exact decide_eq_decide.2 ⟨fun h => by rw [h], fun h => bs_inj h⟩
    · rfl
theorem form_size {n x : ByteArray} (h : x.size ≤ 65000) : (formF n x).size ≤ 65000 := by
  unfold formF
  have h1 : (lowL x.data.toList).length = x.size := by simp [lowL]
  split
  · rw [bs_size]; omega
  · split
    · rw [bs_size]; have := can_len (kindN n) x.data.toList; have : x.data.toList.length = x.size := by simp
      omega
    · exact h
/-- q and the first j names -/
def inN (L : List F) (j : Nat) : ByteArray → Bool := fun x => decide (x = qName) || (List.range j).any fun i => decide (atP L i = x)
theorem inN_zero (L : List F) (x : ByteArray) : andS noS qName x = inN L 0 x := by unfold andS noS inN; simp
theorem inN_more (L : List F) (j : Nat) (x : ByteArray) : andS (inN L j) (atP L j) x = inN L (j + 1) x := by
  unfold andS inN
  rw [List.range_succ, List.any_append]
  simp only [List.any_cons, List.any_nil, Bool.or_false, Bool.or_assoc]
  congr 2
  exact decide_eq_decide.2 ⟨Eq.symm, Eq.symm⟩
theorem inN_at (L : List F) (j : Nat) : (newP L j j && decide (atP L j ≠ qName)) = !inN L j (atP L j) := by
  unfold newP inN
  rw [Bool.not_or, Bool.and_comm]
  congr 1
  · simp
  · rw [Bool.eq_iff_iff, List.all_eq_true, Bool.not_eq_true', List.any_eq_false]
    constructor
    · intro h i hi; have := h i hi; simp at this; simpa using fun e => this e.symm
    · intro h i hi; have := h i hi; simp at this; simpa using fun e => this e.symm
def DiRel (L : List F) (W : World) (i : Value) (wr : World) : Prop :=
  ∃ j : Nat, i = .int .i64 j ∧ j ≤ L.length ∧ ownP L j = true ∧ Box (SSet wr W.heap.size (j + 1) (inN L j)) ∧ Box (Below W.heap.size W wr)
set_option maxHeartbeats 1000000 in
theorem distinct_any (a : Option Addr) (cap : Nat) (L : List F) (z : Bool) (w : World) (hl : L.length ≤ 65536) (hz : Box (∀ i (hi : i < L.length), L[i].1.size ≤ 65536)) (hF : Box (Fs w a L)) (hv : Box (ownP L L.length = z)) :
    Calls Tryz.prog 218 #[.slice a L.length cap] w fun e w' => e = .returned (.bool z) ∧ Below w.heap.size w w' := by
  obtain ⟨w2, hP, hS2, hg⟩ := (SSet.made w).put (s := ⟨#[113]⟩) (by decide) (by decide)
  have S2 : Box (SSet w2 w.heap.size 1 (inN L 0)) := box (hS2.same (inN_zero L))
  have B2 := box ((below_new w (.map #[] 0)).grown hg (below_new w _).size (fun k hk => by cases hk; exact Nat.le_refl _))
  clear hS2 hg
  have hmm := makeMap15 w
  go_enter Tryz.func218, Tryz.ntmps218
  go_wp2
  go_loopw [10] (fun i wr => DiRel L w i wr) (fun i _ => L.length - (intOf i).toNat)
  case atStart => exact ⟨0, rfl, Nat.zero_le _, rfl, S2, B2⟩
  case round =>
    obtain ⟨j, rfl, hj, ho, hS, hB⟩ := hrel
    have HO := box ho
    clear ho
    by_cases hlt : j < L.length
    · obtain ⟨g, off, rfl, c0, c1⟩ := (hF.out.below hB.out) j hlt
      have hs1 := hz.out j hlt
      have hat := atP_is hlt
      obtain ⟨⟨nm, v⟩, hnm⟩ : ∃ p, L[j] = p := ⟨_, rfl⟩
      rw [hnm] at c0 c1 hs1 hat
      simp only at c0 c1 hs1 hat
      have hno : (newP L j j && decide (atP L j ≠ qName)) = !inN L j nm := by rw [inN_at, hat]
      have hsm : nm.size ≤ maxLen := by unfold maxLen; omega
      have HSM := box hsm
      clear hsm
      have hjm : j + 1 < maxLen := by unfold maxLen; omega
      have HJM := box hjm
      clear hjm
      have hw1 := hS.out.lt
      have BN := box (below_new wr (.cells #[.string nm, .string v] 109))
      have S3 := box (hS.out.below BN.out hw1)
      have B3 := box (hB.out.trans (BN.out.mono (Nat.le_of_lt hw1)))
      obtain ⟨q, hq⟩ : ∃ q, inN L j nm = q := ⟨_, rfl⟩
      rw [hq] at hno
      have HQ := box hq
      have HN := box hno
      clear hq hno
      go_wp2_with fail
      refine (add_any w.heap.size (j + 1) (inN L j) nm q _ HSM.out HJM.out S3 HQ).mono ?_; rintro e w4 ⟨rfl, hS4, hb4⟩
      have S4 : Box (SSet w4 w.heap.size (j + 1 + 1) (inN L (j + 1))) := box (hS4.same (fun x => by rw [← hat]; exact inN_more L j x))
      have B4 := box (B3.out.trans hb4)
      clear hS4 hb4 c0 c1 hat hnm
      cases q with
      | true =>
        have HZ : Box (z = false) := box (by
          rw [← hv.out]
          exact range_no (f := fun i => newP L i i && decide (atP L i ≠ qName)) hlt HN.out)
        go_wp2
        go_ret
        exact ⟨by rw [HZ.out]; rfl, B4.out⟩
      | false =>
        have HO2 : Box (ownP L (j + 1) = true) := box (by rw [ownP_more, HO.out, HN.out]; rfl)
        go_wp2
        go_roundw
        case rel => exact ⟨j + 1, by go_num, by omega, HO2.out, S4, B4⟩
        case measure => simp [intOf]; omega
    · obtain rfl : j = L.length := by omega
      have HZ : Box (z = true) := box (by rw [← hv.out]; exact HO.out)
      go_wp2
      go_ret
      exact ⟨by rw [HZ.out]; rfl, hB.out⟩
theorem mMedia15_is {x a b : ByteArray} {L : List F} {q : Bool} {w : World} (hx : x.size ≤ 65000) (h : Box (ofM (mediaL x.data.toList) = (a, b, L) ∧ (mediaL x.data.toList).isSome = q)) :
    Calls Tryz.prog 120 #[.string x] w fun e w' => ∃ p c, e = .returned (.tuple #[.agg #[.string a, .string b, .slice p L.length c], .bool q]) ∧ Fs w' p L ∧ Below w.heap.size w w' := by
  refine (mMedia_any x w hx).mono ?_
  rintro e w' ⟨v, rfl, hO, hb⟩
  obtain ⟨h1, h2⟩ := h.out
  rw [h1] at hO ⊢
  obtain ⟨p, c, rfl, hF, _⟩ := hO.fs
  exact ⟨p, c, by rw [h2], hF, hb⟩
theorem mCan15_is {k : Int} {s x : ByteArray} {w : World} (hk : InI64 k) (hs : s.size ≤ 65000) (h : Box (bs (canL k s.data.toList) = x)) :
    Calls Tryz.prog 143 #[.int .i64 k, .string s] w fun e w' => e = .returned (.string x) ∧ Below w.heap.size w w' :=
  (mCan_any k s w hk (by omega)).mono fun e w' ⟨h1, h2⟩ => ⟨by rw [h1, h.out], h2⟩
theorem aText15_is {s : ByteArray} {b : Bool} {w : World} (hs : s.size ≤ maxLen) (h : Box (textL s.data.toList = b)) :
    Calls Tryz.prog 188 #[.string s] w fun e w' => e = .returned (.bool b) ∧ w = w' :=
  (Text_any s w hs).mono fun e w' ⟨h1, h2⟩ => ⟨by rw [h1, h.out], h2⟩
theorem mKind15_is {n : ByteArray} {k : Int} {w : World} (hn : n.size ≤ 65000) (h : Box (kindN n = k)) :
    Calls Tryz.prog 107 #[.string n] w fun e w' => e = .returned (.int .i64 k) ∧ Below w.heap.size w w' :=
  (mKind_any n w (by omega)).mono fun e w' ⟨h1, h2⟩ => ⟨by rw [h1, h.out], h2⟩
/-- a method form: what it returns for the axis n -/
def FormIs (n : ByteArray) (fn : Nat) (r : Value) : Prop := ∀ (x : ByteArray) (w : World), x.size ≤ 65000 →
  Calls Tryz.prog fn #[r, .string x] w fun e w' => e = .returned (.tuple #[.string (formF n x), .bool (valueV n x)]) ∧ Below w.heap.size w w'
set_option maxHeartbeats 1000000 in
theorem form1_any (n : ByteArray) (hk : kindN n = 1) : FormIs n 217 (.agg #[]) := by
  intro x w hx
  obtain ⟨⟨ta, tb, L⟩, hM⟩ : ∃ m, ofM (mediaL x.data.toList) = m := ⟨_, rfl⟩
  obtain ⟨q, hq⟩ : ∃ q, (mediaL x.data.toList).isSome = q := ⟨_, rfl⟩
  have HM := box (And.intro hM hq)
  obtain ⟨z, hz⟩ : ∃ z, ownP L L.length = z := ⟨_, rfl⟩
  have HV : Box (valueV n x = (q && z)) := box (by unfold valueV; rw [if_pos hk, hM, hq]; exact congrArg _ hz)
  have HF : Box (bs (lowL x.data.toList) = formF n x) := box (by unfold formF; rw [if_pos (.inl hk)])
  obtain ⟨hL6, hsz, _⟩ := media_len hM
  have HSZ : Box (∀ i (hi : i < L.length), L[i].1.size ≤ 65536) := box (fun i hi => by have := (hsz i hi).1; omega)
  have hL7 : L.length ≤ 65536 := by omega
  have HZ := box hz
  have hx4 : x.size ≤ 4294967296 := by omega
  clear hM hq hL6 hsz hz hk
  have B0 := box (below_new w (.cells #[] 133))
  rw [HV.out]
  generalize formF n x = f at HF
  clear HV
  go_enter Tryz.func217, Tryz.ntmps217
  go_wp2_with fail
  refine (mMedia15_is hx HM).mono ?_; rintro e w2 ⟨p, c, rfl, hF, hb2⟩
  have B2 := box (B0.out.trans (hb2.mono B0.out.size))
  have F2 := box hF
  have hs2 := B2.out.size
  clear hb2 hF
  have BN := box (below_new w2 (.cells #[.string ta, .string tb, .slice p L.length c] 77))
  have hC := C3.new (.string ta) (.string tb) (.slice p L.length c) w2 77
  have B3 := box (B2.out.trans (BN.out.mono hs2))
  go_wp2_with fail
  refine (aLower_is hx4 HF).mono ?_; rintro e w3 ⟨rfl, hb3⟩
  have B4 := box (B3.out.trans (hb3.mono B3.out.size))
  have F4 := box (F2.out.below (BN.out.trans (hb3.mono BN.out.size)))
  obtain ⟨⟨r0, r1, r2⟩, _⟩ := hC.next hb3
  clear hC hb3
  cases q with
  | false =>
    go_wp2
    go_ret2
    exact ⟨rfl, B4.out⟩
  | true =>
    go_wp2_with fail
    refine (distinct_any p c L z _ hL7 HSZ F4 HZ).mono ?_; rintro e w5 ⟨rfl, hb5⟩
    have B5 := box (B4.out.trans (hb5.mono B4.out.size))
    clear hb5
    go_wp2
    go_ret2
    exact ⟨rfl, B5.out⟩
theorem form2_any (n : ByteArray) (hk : kindN n = 2) : FormIs n 219 (.agg #[]) := by
  intro x w hx
  obtain ⟨q, hq⟩ : ∃ q, tagL x.data.toList = q := ⟨_, rfl⟩
  have HV : Box (valueV n x = q) := box (by unfold valueV; rw [if_neg (by omega), if_pos hk, hq])
  have HF : Box (bs (lowL x.data.toList) = formF n x) := box (by unfold formF; rw [if_pos (.inr hk)])
  have HQ := box hq
  have hx4 : x.size ≤ 4294967296 := by omega
  clear hq hk
  have B0 := box (below_new w (.cells #[] 134))
  rw [HV.out]
  generalize formF n x = f at HF
  clear HV
  go_enter Tryz.func219, Tryz.ntmps219
  go_wp2_with fail
  refine (aLower_is hx4 HF).mono ?_; rintro e w3 ⟨rfl, hb3⟩
  have B4 := box (B0.out.trans (hb3.mono B0.out.size))
  clear hb3
  go_wp2_with fail
  refine (mTagM_is hx HQ).mono ?_; rintro e w5 ⟨rfl, hb5⟩
  have B5 := box (B4.out.trans (hb5.mono B4.out.size))
  clear hb5
  go_wp2
  go_ret2
  exact ⟨rfl, B5.out⟩
theorem form3_any (n : ByteArray) (k : Int) (h34 : k = 3 ∨ k = 4) (hk : kindN n = k) : FormIs n 220 (.agg #[.int .i64 k]) := by
  intro x w hx
  obtain ⟨q, hq⟩ : ∃ q, tokL x.data.toList = q := ⟨_, rfl⟩
  obtain ⟨z, hz⟩ : ∃ z, (!(x.toList == [42])) = z := ⟨_, rfl⟩
  have HV : Box (valueV n x = (q && z)) := box (by
    unfold valueV; rw [if_neg (by omega), if_neg (by omega), if_pos (by omega), hq, ← hz, show ([42] : List UInt8) = star.toList from by rw [toList_data]; rfl, ne_toList])
  have HF : Box (bs (canL k x.data.toList) = formF n x) := box (by unfold formF; rw [if_neg (by omega), if_pos (by omega), hk])
  have HQ := box hq
  have hk64 : InI64 k := by constructor <;> omega
  have HX : Box (x.size ≤ maxLen) := box (by unfold maxLen; omega)
  clear hq hk
  have B0 := box (below_new w (.cells #[.int .i64 k] 136))
  rw [HV.out]
  generalize formF n x = f at HF
  clear HV h34
  go_enter Tryz.func220, Tryz.ntmps220
  go_wp2_with fail
  refine (mCan15_is hk64 hx HF).mono ?_; rintro e w3 ⟨rfl, hb3⟩
  have B4 := box (B0.out.trans (hb3.mono B0.out.size))
  clear hb3
  go_wp2_with fail
  refine (aToken_is HX.out HQ).mono ?_; rintro e w5 ⟨rfl, rfl⟩
  cases q with
  | false =>
    go_wp2
    go_ret2
    exact ⟨rfl, B4.out⟩
  | true =>
    go_wp2
    go_ret2
    exact ⟨rfl, B4.out⟩
theorem from1_any (m k : Int) (w : World) : Calls Tryz.prog 66 #[.int .i64 m, .int .i64 k] w fun e w' => e = .returned (.bool (decide (1 ≤ k) && decide (k ≤ m))) ∧ w = w' := by
  by_cases h : 1 ≤ k
  · rw [decide_eq_true h]
    go_enter Tryz.func66, Tryz.ntmps66
    go_wp2
    go_ret
    exact ⟨rfl, rfl⟩
  · rw [decide_eq_false h]
    go_enter Tryz.func66, Tryz.ntmps66
    go_wp2
    go_ret
    exact ⟨rfl, rfl⟩
theorem from1_is {m k : Int} {q : Bool} {w : World} (h : Box ((decide (1 ≤ k) && decide (k ≤ m)) = q)) : Calls Tryz.prog 66 #[.int .i64 m, .int .i64 k] w fun e w' => e = .returned (.bool q) ∧ w = w' :=
  (from1_any m k w).mono fun e w' ⟨h1, h2⟩ => ⟨by rw [h1, h.out], h2⟩
set_option maxHeartbeats 1000000 in
theorem form0_any (n : ByteArray) (hk : kindN n = 0) : FormIs n 221 (.agg #[]) := by
  intro x w hx
  obtain ⟨p, hp⟩ : ∃ p, (decide (1 ≤ (x.size : Int)) && decide ((x.size : Int) ≤ 100)) = p := ⟨_, rfl⟩
  obtain ⟨q, hq⟩ : ∃ q, textL x.data.toList = q := ⟨_, rfl⟩
  obtain ⟨t, ht⟩ : ∃ t, bs (trimL x.data.toList) = t := ⟨_, rfl⟩
  obtain ⟨z, hz⟩ : ∃ z, (t.toList == x.toList) = z := ⟨_, rfl⟩
  have HV : Box (valueV n x = (p && q && z)) := box (by
    unfold valueV
    rw [if_neg (by omega), if_neg (by omega), if_neg (by omega), hq, ← hp, ← hz, ← ht, toList_bs]
    congr 1
    · congr 1
      congr 1
      · exact decide_eq_decide.2 (by omega)
      · exact decide_eq_decide.2 (by omega)
    · rw [toList_data]
      by_cases e : trimL x.data.toList = x.data.toList
      · rw [decide_eq_true e, beq_iff_eq.2 e]
      · rw [decide_eq_false e, beq_eq_false_iff_ne.2 e])
  have HF : Box (formF n x = x) := box (by unfold formF; rw [if_neg (by omega), if_neg (by omega)])
  have HP := box hp
  have HQ := box hq
  have HT := box ht
  have HX : Box (x.size ≤ maxLen) := box (by unfold maxLen; omega)
  clear hp hq ht hk
  have B0 := box (below_new w (.cells #[] 137))
  rw [HV.out, HF.out]
  clear HV HF
  go_enter Tryz.func221, Tryz.ntmps221
  go_wp2_with fail
  refine (from1_is HP).mono ?_; rintro e w3 ⟨rfl, rfl⟩
  cases p with
  | false =>
    go_wp2
    go_ret2
    exact ⟨rfl, B0.out⟩
  | true =>
    go_wp2_with fail
    refine (aText15_is HX.out HQ).mono ?_; rintro e w5 ⟨rfl, rfl⟩
    cases q with
    | false =>
      go_wp2
      go_ret2
      exact ⟨rfl, B0.out⟩
    | true =>
      go_wp2_with fail
      refine (aTrim_is HX.out HT).mono ?_; rintro e w6 ⟨rfl, rfl⟩
      go_wp2
      go_ret2
      exact ⟨rfl, B0.out⟩
/-- an interface value whose method form is the axis n's -/
def RuleIs (n : ByteArray) (v : Value) : Prop := ∃ (T : TypeId) (r : Value) (fn : Nat), v = .iface T r ∧ FormIs n fn r ∧
  (∀ k w, (method (k + 2) T r "variantproxy/variants.form").run Tryz.prog w = .ok (fn, r) w) ∧ (∀ a w, (callFunc fn a).run Tryz.prog w = .ok (.enter fn a) w)
theorem ruleOf_any (n : ByteArray) (w : World) (hn : n.size ≤ 65000) :
    Calls Tryz.prog 101 #[.string n] w fun e w' => ∃ v, e = .returned v ∧ RuleIs n v ∧ Below w.heap.size w w' := by
  rcases kind_five n with hk | hk | hk | hk | hk
  · have R : Box (RuleIs n (.iface 133 (.agg #[]))) := box ⟨_, _, _, rfl, form1_any n hk, fun k w => by rfl, fun a w => by rfl⟩
    have HK := box hk
    clear hk
    go_enter Tryz.func101, Tryz.ntmps101
    go_wp2_with fail
    refine (mKind15_is hn HK).mono ?_; rintro e w1 ⟨rfl, hb1⟩
    have B1 := box hb1
    clear hb1
    go_wp2
    go_ret
    exact ⟨_, rfl, R.out, B1.out⟩
  · have R : Box (RuleIs n (.iface 134 (.agg #[]))) := box ⟨_, _, _, rfl, form2_any n hk, fun k w => by rfl, fun a w => by rfl⟩
    have HK := box hk
    clear hk
    go_enter Tryz.func101, Tryz.ntmps101
    go_wp2_with fail
    refine (mKind15_is hn HK).mono ?_; rintro e w1 ⟨rfl, hb1⟩
    have B1 := box hb1
    clear hb1
    go_wp2
    go_ret
    exact ⟨_, rfl, R.out, B1.out⟩
  · have R : Box (RuleIs n (.iface 136 (.agg #[.int .i64 3]))) := box ⟨_, _, _, rfl, form3_any n 3 (.inl rfl) hk, fun k w => by rfl, fun a w => by rfl⟩
    have HK := box hk
    clear hk
    go_enter Tryz.func101, Tryz.ntmps101
    go_wp2_with fail
    refine (mKind15_is hn HK).mono ?_; rintro e w1 ⟨rfl, hb1⟩
    have B1 := box hb1
    clear hb1
    go_wp2
    go_ret
    exact ⟨_, rfl, R.out, B1.out⟩
  · have R : Box (RuleIs n (.iface 136 (.agg #[.int .i64 4]))) := box ⟨_, _, _, rfl, form3_any n 4 (.inr rfl) hk, fun k w => by rfl, fun a w => by rfl⟩
    have HK := box hk
    clear hk
    go_enter Tryz.func101, Tryz.ntmps101
    go_wp2_with fail
    refine (mKind15_is hn HK).mono ?_; rintro e w1 ⟨rfl, hb1⟩
    have B1 := box hb1
    clear hb1
    go_wp2
    go_ret
    exact ⟨_, rfl, R.out, B1.out⟩
  · have R : Box (RuleIs n (.iface 137 (.agg #[]))) := box ⟨_, _, _, rfl, form0_any n hk, fun k w => by rfl, fun a w => by rfl⟩
    have HK := box hk
    clear hk
    go_enter Tryz.func101, Tryz.ntmps101
    go_wp2_with fail
    refine (mKind15_is hn HK).mono ?_; rintro e w1 ⟨rfl, hb1⟩
    have B1 := box hb1
    clear hb1
    go_wp2
    go_ret
    exact ⟨_, rfl, R.out, B1.out⟩
end
section
open Go.RowKit
/-- a rule's method, one string -/
theorem form_is {n x f : ByteArray} {q : Bool} {fn : Nat} {r : Value} {w : World} (h : FormIs n fn r) (hx : x.size ≤ 65000) (hq : Box (formF n x = f ∧ valueV n x = q)) :
    Calls Tryz.prog fn #[r, .string x] w fun e w' => e = .returned (.tuple #[.string f, .bool q]) ∧ Below w.heap.size w w' :=
  (h x w hx).mono fun e w' ⟨h1, h2⟩ => ⟨by rw [h1, hq.out.1, hq.out.2], h2⟩
end
end Go.Proofs.YtklfpkaemnhdhaaGreatDoor.Asc
