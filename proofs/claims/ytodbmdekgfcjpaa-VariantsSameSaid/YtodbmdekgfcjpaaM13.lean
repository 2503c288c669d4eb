/- Merged texts: VarRef6 VarSpec3 VarSpec4 VarSpec5 GrpCon GrpCut BldJoin. -/
import Derived.Test.YtodbmdekgfcjpaaM02
import Derived.Test.YtodbmdekgfcjpaaM06
import Derived.Test.YtodbmdekgfcjpaaM07
import Derived.Test.YtodbmdekgfcjpaaM09
import Derived.Test.YtodbmdekgfcjpaaM10
import Derived.Test.YtodbmdekgfcjpaaM11
import Derived.Test.YtodbmdekgfcjpaaM12
set_option linter.unusedVariables false
set_option linter.unusedSimpArgs false
set_option maxRecDepth 100000
namespace Go.Proofs.Ytodbmdekgfcjpaa.Asc
section
open Go.RowKit
theorem byte_neq {c d : UInt8} : ((c.toNat : Int) != (d.toNat : Int)) = (c != d) := by
  by_cases h : c = d
  · subst h; simp
  · rw [bne_iff_ne.2 h, bne_iff_ne]
    intro e
    exact h (UInt8.toNat_inj.mp (by omega))
def valW (w w' : World) (T : Option (List (List UInt8))) (e : Ending) : Prop := ∃ v, e = .returned (.tuple #[v, .bool T.isSome]) ∧ OwnS w' w.heap.size v ((T.getD []).map bs) ∧ Below w.heap.size w w' ∧ (T = none → v = .slice none 0 0)
theorem valW_none {w w' : World} {T : Option (List (List UInt8))} (h : Box (T = none)) (hb : Below w.heap.size w w') : valW w w' T (.returned (.tuple #[.slice none 0 0, .bool false])) := by
  rw [h.out]; exact ⟨_, rfl, OwnS.nil _ _, hb, fun _ => rfl⟩
end
section
def nmVar : ByteArray := ⟨#[86, 97, 114, 105, 97, 110, 116, 115]⟩
/-- a member: a token, '=', values -/
def memV (m : List UInt8) : Option AX :=
  if cutB 61 m = false ∨ tokL (cut1 61 m) = false then none
  else (valuesL (cut2 61 m)).map fun vs => (bs (lowL (cut1 61 m)), vs.map bs)
def memsV : List (List UInt8) → List AX → Option (List AX)
  | [], acc => some acc
  | m :: ms, acc => match memV m with
    | none => none
    | some x => memsV ms (acc ++ [x])
def varsE (L : List F) : Int :=
  if L.any (nmd nmVar) = false then 12
  else match memsV (allL nmVar L) [] with
    | none => 1
    | some X => if validX X = true then 0 else 11
def varsX (L : List F) : List AX :=
  if L.any (nmd nmVar) = false then []
  else match memsV (allL nmVar L) [] with
    | none => []
    | some X => if validX X = true then X else []
theorem vars_none {L : List F} (h : L.any (nmd nmVar) = false) : varsE L = 12 ∧ varsX L = [] := by unfold varsE varsX; rw [if_pos h, if_pos h]; exact ⟨rfl, rfl⟩
theorem vars_bad {L : List F} (h : L.any (nmd nmVar) = true) (hm : memsV (allL nmVar L) [] = none) : varsE L = 1 ∧ varsX L = [] := by
  unfold varsE varsX; rw [if_neg (by rw [h]; simp), if_neg (by rw [h]; simp), hm]; exact ⟨rfl, rfl⟩
theorem vars_lim {L : List F} {X : List AX} (h : L.any (nmd nmVar) = true) (hm : memsV (allL nmVar L) [] = some X) (hv : validX X = false) : varsE L = 11 ∧ varsX L = [] := by
  unfold varsE varsX; rw [if_neg (by rw [h]; simp), if_neg (by rw [h]; simp), hm]; simp [hv]
theorem vars_ok {L : List F} {X : List AX} (h : L.any (nmd nmVar) = true) (hm : memsV (allL nmVar L) [] = some X) (hv : validX X = true) : varsE L = 0 ∧ varsX L = X := by
  unfold varsE varsX; rw [if_neg (by rw [h]; simp), if_neg (by rw [h]; simp), hm]; simp [hv]
theorem memsV_bad {m : List UInt8} {ms : List (List UInt8)} {acc : List AX} (h : memV m = none) : memsV (m :: ms) acc = none := by
  show (match memV m with | none => none | some x => memsV ms (acc ++ [x])) = _; rw [h]
theorem memsV_more {m : List UInt8} {ms : List (List UInt8)} {acc : List AX} {x : AX} (h : memV m = some x) : memsV (m :: ms) acc = memsV ms (acc ++ [x]) := by
  show (match memV m with | none => none | some x => memsV ms (acc ++ [x])) = _; rw [h]
theorem word_size {l v : List UInt8} {n : Nat} (h : wordE l = some (v, n)) : v.length ≤ l.length + 1 := by
  cases l with
  | nil => cases h
  | cons c r =>
    rw [wordE_cons] at h
    by_cases hc : c = 34
    · rw [if_pos hc] at h
      obtain ⟨m, hm, h⟩ := Option.bind_eq_some_iff.1 h
      obtain ⟨u, hu, h⟩ := Option.map_eq_some_iff.1 h
      simp only [Prod.mk.injEq] at h
      have := (unq_facts hu).1
      rw [List.length_cons, List.length_take] at this
      rw [← h.1, List.length_cons]; omega
    · rw [if_neg hc] at h
      by_cases hp : plainC c = false
      · rw [if_pos hp] at h; cases h
      · rw [if_neg hp] at h
        simp only [Option.some.injEq, Prod.mk.injEq] at h
        rw [← h.1]
        have := (List.takeWhile_sublist plainC (l := c :: r)).length_le
        omega
theorem valsF_size : ∀ (f : Nat) (l : List UInt8) (acc X : List (List UInt8)) (B : Nat), valsF f l acc = some X → (∀ v ∈ acc, v.length ≤ B) → l.length + 1 ≤ B → X.length ≤ acc.length + l.length ∧ ∀ v ∈ X, v.length ≤ B
  | f, [], acc, X, B, h, ha, _ => by rw [valsF_nil] at h; cases h; exact ⟨by simp, ha⟩
  | 0, c :: r, acc, X, B, h, _, _ => by cases h
  | f + 1, c :: r, acc, X, B, h, ha, hB => by
    rw [List.length_cons] at hB
    rw [valsF_cons] at h
    by_cases hc : c = 32
    · rw [if_pos hc] at h
      obtain ⟨h1, h2⟩ := valsF_size f r acc X B h ha (by omega)
      exact ⟨by rw [List.length_cons]; omega, h2⟩
    · rw [if_neg hc] at h
      cases hw : wordE (c :: r) with
      | none => rw [hw] at h; cases h
      | some p =>
        obtain ⟨v, n⟩ := p
        rw [hw] at h
        have hn := wordE_pos hw
        have hs := word_size hw
        rw [List.length_cons] at hs
        have ha2 : ∀ x ∈ acc ++ [v], x.length ≤ B := fun x hx => by
          rcases List.mem_append.1 hx with q | q
          · exact ha x q
          · rw [List.mem_singleton.1 q]; omega
        simp only at h
        cases hd : (c :: r).drop n with
        | nil =>
          rw [hd] at h
          cases h
          exact ⟨by rw [List.length_append]; simp, ha2⟩
        | cons d r2 =>
          rw [hd] at h
          simp only at h
          by_cases h3 : d = 32
          · rw [if_pos h3] at h
            have hnl : n ≤ (c :: r).length := by
              rcases Nat.lt_or_ge (c :: r).length n with q | q
              · rw [List.drop_of_length_le (by omega)] at hd; cases hd
              · exact q
            have hl : (d :: r2).length + n = (c :: r).length := by rw [← hd, List.length_drop]; omega
            rw [List.length_cons (a := c)] at hl
            obtain ⟨h1, h2⟩ := valsF_size f (d :: r2) _ X B h ha2 (by omega)
            refine ⟨?_, h2⟩
            rw [List.length_append] at h1
            simp only [List.length_cons, List.length_nil] at h1 hl ⊢
            omega
          · rw [if_neg h3] at h; cases h
theorem values_size {l : List UInt8} {X : List (List UInt8)} (h : valuesL l = some X) : X.length ≤ l.length ∧ ∀ v ∈ X, v.length ≤ l.length := by
  unfold valuesL at h
  split at h
  · cases h
  · rename_i q
    have h2 : ¬ l.length < 2 := fun e => q (.inl e)
    have hl : ((l.drop 1).dropLast).length = l.length - 1 - 1 := by rw [List.length_dropLast, List.length_drop]
    obtain ⟨h3, h4⟩ := valsF_size _ _ _ _ l.length h (by simp) (by omega)
    exact ⟨by simp only [List.length_nil] at h3; omega, h4⟩
def szA (x : AX) (n : Nat) : Prop := x.1.size ≤ n ∧ x.2.length ≤ n ∧ ∀ v ∈ x.2, v.size ≤ n
theorem memV_size {m : List UInt8} {x : AX} (h : memV m = some x) : szA x m.length := by
  unfold memV at h
  split at h
  · cases h
  · obtain ⟨X, hX, h⟩ := Option.map_eq_some_iff.1 h
    obtain ⟨h1, h2⟩ := values_size hX
    have c1 : (cut1 61 m).length ≤ m.length := by unfold cut1; exact (List.takeWhile_sublist _).length_le
    have c2 : (cut2 61 m).length ≤ m.length := by unfold cut2; rw [List.length_drop]; have := (List.dropWhile_sublist (· != (61 : UInt8)) (l := m)).length_le; omega
    subst h
    refine ⟨?_, by rw [List.length_map]; omega, fun v hv => ?_⟩
    · rw [bs_size]; have : (lowL (cut1 61 m)).length = (cut1 61 m).length := by unfold lowL; simp
      omega
    · obtain ⟨y, hy, rfl⟩ := List.mem_map.1 hv
      rw [bs_size]; have := h2 y hy; omega
end
section
def wordW (v : List UInt8) : List UInt8 := if (visL v && v.all plainC) = true then v else quoteL v
def joinW : List (List UInt8) → List UInt8
  | [] => []
  | x :: r => wordW x ++ r.flatMap fun y => 32 :: wordW y
def writL (V : List (List UInt8)) : List UInt8 := 40 :: (joinW V ++ [41])
def axisL (x : AX) : List UInt8 := x.1.data.toList ++ 61 :: writL (x.2.map fun v => v.data.toList)
def axesB (L : List AX) : ByteArray := joinB (L.map fun x => bs (axisL x))
def fmtV (L : List AX) : ByteArray := if validX L = true then axesB L else ⟨#[]⟩
theorem word_len (v : List UInt8) : (wordW v).length ≤ 2 * v.length + 2 := by
  unfold wordW
  split
  · omega
  · unfold quoteL
    have := escL_len v
    rw [List.length_cons, List.length_append]; simp only [List.length_cons, List.length_nil]; omega
theorem joinW_more {V : List (List UInt8)} {k : Nat} (h : k < V.length) : joinW (V.take (k + 1)) = (if k = 0 then [] else joinW (V.take k) ++ [32]) ++ wordW V[k] := by
  cases V with
  | nil => simp at h
  | cons x r =>
    cases k with
    | zero => simp [joinW]
    | succ k =>
      have hk : k < r.length := by simpa using h
      rw [if_neg (by omega), List.take_succ_cons, List.take_succ_cons, List.getElem_cons_succ]
      show wordW x ++ (r.take (k + 1)).flatMap _ = (wordW x ++ (r.take k).flatMap _ ++ [32]) ++ wordW r[k]
      rw [take_next hk, List.flatMap_append]
      simp
theorem joinW_len {V : List (List UInt8)} {n : Nat} (hz : ∀ v ∈ V, v.length ≤ n) : ∀ k, (joinW (V.take k)).length ≤ k * (2 * n + 3)
  | 0 => by simp [joinW]
  | k + 1 => by
    have ih := joinW_len hz k
    by_cases h : k < V.length
    · rw [joinW_more h, List.length_append]
      have h1 := word_len V[k]
      have h2 := hz V[k] (List.getElem_mem h)
      have h3 : (if k = 0 then ([] : List UInt8) else joinW (V.take k) ++ [32]).length ≤ k * (2 * n + 3) + 1 := by
        split
        · simp
        · rw [List.length_append]; simp only [List.length_cons, List.length_nil]; omega
      rw [Nat.add_mul]; omega
    · rw [List.take_of_length_le (by omega)]
      rw [List.take_of_length_le (by omega)] at ih
      rw [Nat.add_mul]; omega
def fitA (x : AX) : Prop := x.1.size ≤ 1000 ∧ x.2.length ≤ 20 ∧ ∀ v ∈ x.2, v.size ≤ 1000
theorem writ_len {V : List ByteArray} (h1 : V.length ≤ 20) (h2 : ∀ v ∈ V, v.size ≤ 1000) : (writL (V.map fun v => v.data.toList)).length ≤ 41000 := by
  have := joinW_len (V := V.map fun v => v.data.toList) (n := 1000) (fun v hv => by
    obtain ⟨y, hy, rfl⟩ := List.mem_map.1 hv
    have := h2 y hy
    simpa using this) V.length
  rw [List.take_of_length_le (by simp)] at this
  unfold writL
  rw [List.length_cons, List.length_append]
  simp only [List.length_cons, List.length_nil]
  have : V.length * (2 * 1000 + 3) ≤ 20 * 2003 := Nat.mul_le_mul h1 (by omega)
  omega
end
section
/-- the value that a piece stands for -/
def readV (t : List UInt8) : Option (List UInt8) := if (t.all plainC) = true then some t else unqL t
def grpF : List (List UInt8) → List (List UInt8) → Option (List (List UInt8))
  | [], acc => some acc
  | t :: r, acc => if t = [] then grpF r acc else match readV t with
    | none => none
    | some v => grpF r (acc ++ [v])
theorem grpF_skip {r acc : List (List UInt8)} : grpF ([] :: r) acc = grpF r acc := by unfold grpF; rw [if_pos rfl]; cases r <;> rfl
theorem grpF_bad {t : List UInt8} {r acc : List (List UInt8)} (h : t ≠ []) (h2 : readV t = none) : grpF (t :: r) acc = none := by
  unfold grpF; rw [if_neg h, h2]
theorem grpF_more {t v : List UInt8} {r acc : List (List UInt8)} (h : t ≠ []) (h2 : readV t = some v) : grpF (t :: r) acc = grpF r (acc ++ [v]) := by
  conv => lhs; unfold grpF
  rw [if_neg h, h2]
theorem pc_quoted (sep : UInt8) : ∀ (k : Nat) (r acc : List UInt8), r.length ≤ k → (∀ n, qE r = some n → pcF sep 1 r acc = pcF sep 0 (r.drop n) (acc ++ r.take n) ∧ n ≤ r.length) ∧ (qE r = none → pcF sep 1 r acc = (acc ++ r, [], false))
  | k, [], acc, _ => ⟨fun n h => (by cases h), fun _ => by simp [pcF]⟩
  | 0, c :: r, acc, h => by simp at h
  | k + 1, c :: r, acc, h => by
    simp only [List.length_cons] at h
    rw [pcF_cons, if_neg (fun q => absurd q.1 (by decide))]
    by_cases h34 : c = 34
    · subst h34
      rw [qE_quo]
      refine ⟨fun n hn => ?_, fun hn => (by cases hn)⟩
      cases hn
      exact ⟨by simp [stepQ], by simp⟩
    · by_cases h92 : c = 92
      · subst h92
        have e2 : stepQ 1 (92 : UInt8) = 2 := by decide
        rw [e2]
        match r, h with
        | [], h => exact ⟨fun n hn => (by cases hn), fun _ => by simp [pcF]⟩
        | d :: r2, h =>
          simp only [List.length_cons] at h
          rw [qE_esc, pcF_cons, if_neg (fun q => absurd q.1 (by decide))]
          have e1 : stepQ 2 d = 1 := by unfold stepQ; rw [if_neg (by decide), if_neg (by decide)]
          rw [e1]
          obtain ⟨i1, i2⟩ := pc_quoted sep k r2 (acc ++ [92] ++ [d]) (by omega)
          refine ⟨fun n hn => ?_, fun hn => ?_⟩
          · obtain ⟨m, hm, rfl⟩ := Option.map_eq_some_iff.1 hn
            obtain ⟨j1, j2⟩ := i1 m hm
            refine ⟨?_, by simp only [List.length_cons]; omega⟩
            rw [j1]
            simp
          · rw [i2 (by simpa using hn)]; simp
      · rw [qE_any r h34 h92]
        have e1 : stepQ 1 c = 1 := by unfold stepQ; rw [if_neg (by decide), if_pos rfl, if_neg h34, if_neg h92]
        rw [e1]
        obtain ⟨i1, i2⟩ := pc_quoted sep k r (acc ++ [c]) (by omega)
        refine ⟨fun n hn => ?_, fun hn => ?_⟩
        · obtain ⟨m, hm, rfl⟩ := Option.map_eq_some_iff.1 hn
          obtain ⟨j1, j2⟩ := i1 m hm
          refine ⟨?_, by simp only [List.length_cons]; omega⟩
          rw [j1]; simp
        · rw [i2 (by simpa using hn)]; simp
/-- a text that is unescaped and a quote: the quote is the first that ends the quoted string -/
theorem qE_unesc : ∀ (k : Nat) (m u x : List UInt8), m.length ≤ k → unescL m = some u → qE (m ++ 34 :: x) = some (m.length + 1)
  | k, [], u, x, _, _ => qE_quo x
  | 0, c :: r, u, x, h, _ => by simp at h
  | k + 1, c :: r, u, x, h, hu => by
    simp only [List.length_cons] at h
    by_cases h34 : c = 34
    · subst h34; rw [unescL_q] at hu; cases hu
    · by_cases h92 : c = 92
      · subst h92
        match r, h, hu with
        | [], h, hu => rw [unescL_e] at hu; cases hu
        | d :: r2, h, hu =>
          simp only [List.length_cons] at h
          rw [unescL_b] at hu
          obtain ⟨v, hv, _⟩ := Option.map_eq_some_iff.1 hu
          rw [List.cons_append, List.cons_append, qE_esc, qE_unesc k r2 v x (by omega) hv]
          simp
      · rw [unescL_o c r h34 h92] at hu
        obtain ⟨v, hv, _⟩ := Option.map_eq_some_iff.1 hu
        rw [List.cons_append, qE_any _ h34 h92, qE_unesc k r v x (by omega) hv]
        simp
/-- what is unquoted is a quote, an inside and a quote -/
theorem unq_parts {l u : List UInt8} (h : unqL l = some u) : ∃ m, l = 34 :: (m ++ [34]) ∧ textL m = true ∧ unescL m = some u := by
  unfold unqL at h
  split at h
  · cases h
  · rename_i hc
    have h2 : ¬ l.length < 2 := fun e => hc (.inl e)
    have h0 : l.getD 0 0 = 34 := Classical.byContradiction fun e => hc (.inr (.inl e))
    have h1 : l.getD (l.length - 1) 0 = 34 := Classical.byContradiction fun e => hc (.inr (.inr e))
    refine ⟨(l.take (l.length - 1)).drop 1, ?_, ?_, ?_⟩
    · match l, h2, h0, h1 with
      | c :: r, h2, h0, h1 =>
        simp only [List.length_cons] at h2
        have hc0 : c = 34 := by simpa using h0
        subst hc0
        have hr : r ≠ [] := by intro e; subst e; simp at h2
        have e1 : (34 :: r).length - 1 = (r.length - 1) + 1 := by simp only [List.length_cons]; omega
        rw [e1] at h1 ⊢
        rw [List.take_succ_cons, List.drop_succ_cons, List.drop_zero]
        congr 1
        have hl : r[r.length - 1]'(by omega) = 34 := by
          rw [List.getD_eq_getElem?_getD, List.getElem?_cons_succ, List.getElem?_eq_getElem (by omega)] at h1
          simpa using h1
        have := List.dropLast_concat_getLast hr
        rw [List.getLast_eq_getElem, hl, List.dropLast_eq_take] at this
        exact this.symm
      | [], h2, _, _ => simp at h2
    · unfold unqIn at h; split at h
      · assumption
      · cases h
    · unfold unqIn at h; split at h
      · exact h
      · cases h
theorem qE_front : ∀ (k : Nat) (r x : List UInt8) (n : Nat), r.length ≤ k → qE r = some n → qE (r ++ x) = some n
  | k, [], x, n, _, h => by cases h
  | 0, c :: r, x, n, hl, _ => by simp at hl
  | k + 1, c :: r, x, n, hl, h => by
    simp only [List.length_cons] at hl
    by_cases h34 : c = 34
    · subst h34; rw [qE_quo] at h; rw [List.cons_append, qE_quo]; exact h
    · by_cases h92 : c = 92
      · subst h92
        match r, hl, h with
        | [], _, h => cases h
        | d :: r2, hl, h =>
          simp only [List.length_cons] at hl
          rw [qE_esc] at h
          obtain ⟨m, hm, rfl⟩ := Option.map_eq_some_iff.1 h
          rw [List.cons_append, List.cons_append, qE_esc, qE_front k r2 x m (by omega) hm]; rfl
      · rw [qE_any r h34 h92] at h
        obtain ⟨m, hm, rfl⟩ := Option.map_eq_some_iff.1 h
        rw [List.cons_append, qE_any _ h34 h92, qE_front k r x m (by omega) hm]; rfl
theorem qE_take : ∀ (k : Nat) (r : List UInt8) (n : Nat), r.length ≤ k → qE r = some n → qE (r.take n) = some n
  | k, [], n, _, h => by cases h
  | 0, c :: r, n, hl, _ => by simp at hl
  | k + 1, c :: r, n, hl, h => by
    simp only [List.length_cons] at hl
    by_cases h34 : c = 34
    · subst h34; rw [qE_quo] at h; cases h; rw [List.take_succ_cons, qE_quo]
    · by_cases h92 : c = 92
      · subst h92
        match r, hl, h with
        | [], _, h => cases h
        | d :: r2, hl, h =>
          simp only [List.length_cons] at hl
          rw [qE_esc] at h
          obtain ⟨m, hm, rfl⟩ := Option.map_eq_some_iff.1 h
          rw [List.take_succ_cons, List.take_succ_cons, qE_esc, qE_take k r2 m (by omega) hm]; rfl
      · rw [qE_any r h34 h92] at h
        obtain ⟨m, hm, rfl⟩ := Option.map_eq_some_iff.1 h
        rw [List.take_succ_cons, qE_any _ h34 h92, qE_take k r m (by omega) hm]; rfl
/-- what is unquoted ends with the quoted string's own last quote -/
theorem unq_end {r u : List UInt8} (h : unqL (34 :: r) = some u) : qE r = some r.length := by
  obtain ⟨m, e, _, hu⟩ := unq_parts h
  obtain rfl : r = m ++ [34] := (List.cons.inj e).2
  rw [qE_unesc m.length m u [] (Nat.le_refl _) hu]; simp
theorem unq_head5 {c : UInt8} {r : List UInt8} (h : c ≠ 34) : unqL (c :: r) = none := by
  cases hu : unqL (c :: r) with
  | none => rfl
  | some u => obtain ⟨m, e, _⟩ := unq_parts hu; exact absurd (List.cons.inj e).1 h
theorem pc_acc (sep : UInt8) : ∀ (l : List UInt8) (s : Nat) (acc : List UInt8), ∃ y, (pcF sep s l acc).1 = acc ++ y
  | [], s, acc => ⟨[], by simp [pcF]⟩
  | c :: r, s, acc => by
    rw [pcF_cons]
    split
    · exact ⟨[], by simp⟩
    · obtain ⟨y, hy⟩ := pc_acc sep r (stepQ s c) (acc ++ [c])
      exact ⟨c :: y, by rw [hy]; simp⟩
theorem plain_ne {c : UInt8} (h : plainC c = true) : c ≠ 34 ∧ c ≠ 32 ∧ c ≠ 44 ∧ c ≠ 40 ∧ c ≠ 41 ∧ c ≠ 9 := by
  unfold plainC at h
  simp only [Bool.and_eq_true, bne_iff_ne] at h
  obtain ⟨⟨⟨⟨⟨h1, h2⟩, h3⟩, h4⟩, h5⟩, h6⟩ := h
  exact ⟨h6, h1, h5, h3, h4, h2⟩
theorem pc_plain : ∀ (a r acc : List UInt8), (∀ c ∈ a, plainC c = true) → pcF 32 0 (a ++ r) acc = pcF 32 0 r (acc ++ a)
  | [], r, acc, _ => by simp
  | c :: a, r, acc, h => by
    have hc := plain_ne (h c (by simp))
    rw [List.cons_append, pcF_cons, if_neg (fun q => hc.2.1 q.2)]
    have e : stepQ 0 c = 0 := by unfold stepQ; rw [if_pos rfl, if_neg hc.1]
    rw [e, pc_plain a r _ (fun x hx => h x (by simp [hx]))]
    simp
theorem read_bad {c : UInt8} {r : List UInt8} (h : c ≠ 34) {d : UInt8} (hd : d ∈ c :: r) (hp : plainC d = false) : readV (c :: r) = none := by
  unfold readV
  have : (c :: r).all plainC = false := by rw [List.all_eq_false]; exact ⟨d, hd, by rw [hp]; simp⟩
  rw [this, unq_head5 h]; rfl
theorem read_quo (r : List UInt8) : readV (34 :: r) = unqL (34 :: r) := by
  unfold readV
  have : (34 :: r).all plainC = false := by rw [List.all_eq_false]; exact ⟨34, by simp, by decide⟩
  rw [this]; rfl
theorem cut_piece5 (l : List UInt8) : cutL 32 l = (pcL 32 l).1 :: moreL 32 (pcL 32 l).2.2 (pcL 32 l).2.1 := cutL_pc (by decide) l
theorem vals_grp : ∀ (k : Nat) (l : List UInt8) (acc : List (List UInt8)), l.length ≤ k → valsL l acc = grpF (cutL 32 l) acc
  | k, [], acc, _ => by rw [valsL_nil, show cutL 32 [] = [[]] from rfl, grpF_skip]; rfl
  | 0, c :: r, acc, h => by simp at h
  | k + 1, c :: r, acc, h => by
    simp only [List.length_cons] at h
    rw [cut_piece5]
    by_cases h32 : c = 32
    · subst h32
      have e : pcL 32 (32 :: r) = ([], r, true) := by unfold pcL; rw [pcF_cons, if_pos ⟨rfl, rfl⟩]
      rw [valsL_sp, e, vals_grp k r acc (by omega)]
      show _ = grpF ([] :: cutL 32 r) acc
      rw [grpF_skip]
    · by_cases h34 : c = 34
      · subst h34
        have e0 : pcL 32 (34 :: r) = pcF 32 1 r [34] := by
          unfold pcL; rw [pcF_cons, if_neg (fun q => absurd q.2 (by decide))]; rfl
        obtain ⟨q1, q2⟩ := pc_quoted 32 r.length r [34] (Nat.le_refl _)
        cases hq : qE r with
        | none =>
          have hw : wordE (34 :: r) = none := by rw [wordE_cons, if_pos rfl, hq]; rfl
          rw [valsL_none (by decide) hw, e0, q2 hq]
          have hu : unqL (34 :: r) = none := by
            cases hu : unqL (34 :: r) with
            | none => rfl
            | some u => rw [unq_end hu] at hq; cases hq
          exact (grpF_bad (by simp) (by show readV (34 :: r) = none; rw [read_quo, hu])).symm
        | some n =>
          obtain ⟨j1, j2⟩ := q1 n hq
          have hdl : (34 :: r).drop (n + 1) = r.drop n := rfl
          have hqt := qE_take r.length r n (Nat.le_refl _) hq
          cases hd : r.drop n with
          | nil =>
            have hn : n = r.length := by have := congrArg List.length hd; rw [List.length_drop] at this; simp at this; omega
            have htk : r.take n = r := List.take_of_length_le (by omega)
            rw [e0, j1, hd, htk]
            show _ = grpF [34 :: r] acc
            cases hu : unqL (34 :: r) with
            | none =>
              have hw : wordE (34 :: r) = none := by rw [wordE_cons, if_pos rfl, hq]; simp [htk, hu]
              rw [valsL_none (by decide) hw, grpF_bad (by simp) (by rw [read_quo, hu])]
            | some u =>
              have hw : wordE (34 :: r) = some (u, n + 1) := by rw [wordE_cons, if_pos rfl, hq]; simp [htk, hu]
              rw [valsL_end (by decide) hw (by rw [hdl, hd]), hdl, hd, valsL_nil, grpF_more (by simp) (by rw [read_quo, hu])]; rfl
          | cons d r2 =>
            have hlen : (r.drop n).length = r.length - n := List.length_drop ..
            rw [hd, List.length_cons] at hlen
            rw [e0, j1, hd]
            by_cases h3 : d = 32
            · subst h3
              rw [pcF_cons, if_pos ⟨rfl, rfl⟩]
              show _ = grpF ((34 :: r.take n) :: cutL 32 r2) acc
              cases hu : unqL (34 :: r.take n) with
              | none =>
                have hw : wordE (34 :: r) = none := by rw [wordE_cons, if_pos rfl, hq]; simp [hu]
                rw [valsL_none (by decide) hw, grpF_bad (by simp) (by rw [read_quo, hu])]
              | some u =>
                have hw : wordE (34 :: r) = some (u, n + 1) := by rw [wordE_cons, if_pos rfl, hq]; simp [hu]
                rw [valsL_word (by decide) hw (by rw [hdl, hd]), hdl, hd, valsL_sp, grpF_more (by simp) (by rw [read_quo, hu]), vals_grp k r2 _ (by omega)]
            · rw [pcF_cons, if_neg (fun q => h3 q.2)]
              obtain ⟨y, hy⟩ := pc_acc 32 r2 (stepQ 0 d) ([34] ++ r.take n ++ [d])
              have hv : valsL (34 :: r) acc = none := by
                cases hu : unqL (34 :: r.take n) with
                | none =>
                  have hw : wordE (34 :: r) = none := by rw [wordE_cons, if_pos rfl, hq]; simp [hu]
                  rw [valsL_none (by decide) hw]
                | some u =>
                  have hw : wordE (34 :: r) = some (u, n + 1) := by rw [wordE_cons, if_pos rfl, hq]; simp [hu]
                  rw [valsL_bad (by decide) hw (by rw [hdl, hd]) h3]
              have he : [34] ++ r.take n ++ [d] ++ y = 34 :: (r.take n ++ d :: y) := by simp
              have hu : unqL (34 :: (r.take n ++ d :: y)) = none := by
                cases hu : unqL (34 :: (r.take n ++ d :: y)) with
                | none => rfl
                | some u =>
                  have h1 := unq_end hu
                  rw [qE_front _ _ (d :: y) n (Nat.le_refl _) hqt] at h1
                  have h2 := Option.some.inj h1
                  rw [List.length_append, List.length_take, List.length_cons] at h2
                  omega
              rw [hv, hy, he, grpF_bad (by simp) (by rw [read_quo, hu])]
      · cases hp : plainC c with
        | false =>
          have hw : wordE (c :: r) = none := by rw [wordE_cons, if_neg h34, if_pos hp]
          have e0 : pcL 32 (c :: r) = pcF 32 0 r [c] := by
            unfold pcL; rw [pcF_cons, if_neg (fun q => h32 q.2)]
            have : stepQ 0 c = 0 := by unfold stepQ; rw [if_pos rfl, if_neg h34]
            rw [this]; rfl
          obtain ⟨y, hy⟩ := pc_acc 32 r 0 [c]
          rw [valsL_none h32 hw, e0, hy]
          exact (grpF_bad (by simp) (read_bad h34 (by simp) hp)).symm
        | true =>
          obtain ⟨a, ha⟩ : ∃ a, (c :: r).takeWhile plainC = a := ⟨_, rfl⟩
          have hw : wordE (c :: r) = some (a, a.length) := by rw [wordE_cons, if_neg h34, if_neg (by rw [hp]; simp), ha]
          have hsp : a ++ (c :: r).drop a.length = c :: r := by
            have := List.takeWhile_append_dropWhile (p := plainC) (l := c :: r)
            rw [ha] at this
            have h2 : (c :: r).drop a.length = (c :: r).dropWhile plainC := by
              conv => lhs; rw [← this]
              rw [List.drop_left]
            rw [h2]; exact this
          have hall : ∀ x ∈ a, plainC x = true := fun x hx => by rw [← ha] at hx; exact (List.all_eq_true.1 List.all_takeWhile) x hx
          have ha0 : a = c :: r.takeWhile plainC := by rw [← ha, List.takeWhile_cons_of_pos hp]
          have hane : a ≠ [] := by rw [ha0]; simp
          have hra : readV a = some a := by unfold readV; rw [if_pos (List.all_eq_true.2 hall)]
          have hpc : pcL 32 (c :: r) = pcF 32 0 ((c :: r).drop a.length) a := by
            unfold pcL
            conv => lhs; rw [← hsp]
            rw [pc_plain a _ [] hall]; rfl
          rw [hpc]
          cases hd : (c :: r).drop a.length with
          | nil =>
            rw [valsL_end h32 hw hd, hd, valsL_nil]
            show _ = grpF [a] acc
            rw [grpF_more hane hra]; rfl
          | cons d r2 =>
            have hlen : ((c :: r).drop a.length).length = (c :: r).length - a.length := List.length_drop ..
            rw [hd, List.length_cons, List.length_cons] at hlen
            have hal : 1 ≤ a.length := by rw [ha0]; simp
            by_cases h3 : d = 32
            · subst h3
              rw [valsL_word h32 hw hd, hd, valsL_sp, pcF_cons, if_pos ⟨rfl, rfl⟩]
              show _ = grpF (a :: cutL 32 r2) acc
              rw [grpF_more hane hra, vals_grp k r2 _ (by omega)]
            · have hdp : plainC d = false := by
                have h5 : (c :: r).dropWhile plainC = d :: r2 := by
                  have := List.takeWhile_append_dropWhile (p := plainC) (l := c :: r)
                  rw [ha] at this
                  have h2 : (c :: r).drop a.length = (c :: r).dropWhile plainC := by
                    conv => lhs; rw [← this]
                    rw [List.drop_left]
                  rw [← h2]; exact hd
                have := List.head?_dropWhile_not plainC (c :: r)
                rw [h5] at this
                simpa using this
              rw [valsL_bad h32 hw hd h3, pcF_cons, if_neg (fun q => h3 q.2)]
              obtain ⟨y, hy⟩ := pc_acc 32 r2 (stepQ 0 d) (a ++ [d])
              rw [hy]
              have he : a ++ [d] ++ y = c :: (r.takeWhile plainC ++ d :: y) := by rw [ha0]; simp
              rw [he]
              exact (grpF_bad (by simp) (read_bad h34 (by simp) hdp)).symm
end
section
open Go.RowKit
theorem byte_eqs {c d : UInt8} : ((c.toNat : Int) == (d.toNat : Int)) = !(c != d) := by
  have := byte_neq (c := c) (d := d)
  rw [← this]
  show _ = !(!((c.toNat : Int) == (d.toNat : Int)))
  rw [Bool.not_not]
theorem mayStand_any (c : UInt8) (w : World) :
    Calls Try.prog 64 #[.int .u8 (c.toNat : Int)] w fun e w' => e = .returned (.bool (plainC c)) ∧ w = w' := by
  have e32 : (c != 32) = !((c.toNat : Int) == 32) := by rw [show ((32 : Int)) = ((32 : UInt8).toNat : Int) from rfl, byte_eqs, Bool.not_not]
  have e9 : (c != 9) = !((c.toNat : Int) == 9) := by rw [show ((9 : Int)) = ((9 : UInt8).toNat : Int) from rfl, byte_eqs, Bool.not_not]
  have e40 : (c != 40) = !((c.toNat : Int) == 40) := by rw [show ((40 : Int)) = ((40 : UInt8).toNat : Int) from rfl, byte_eqs, Bool.not_not]
  have e41 : (c != 41) = !((c.toNat : Int) == 41) := by rw [show ((41 : Int)) = ((41 : UInt8).toNat : Int) from rfl, byte_eqs, Bool.not_not]
  have e44 : (c != 44) = !((c.toNat : Int) == 44) := by rw [show ((44 : Int)) = ((44 : UInt8).toNat : Int) from rfl, byte_eqs, Bool.not_not]
  have e34 : (c != 34) = !((c.toNat : Int) == 34) := by rw [show ((34 : Int)) = ((34 : UInt8).toNat : Int) from rfl, byte_eqs, Bool.not_not]
  obtain ⟨q, hq⟩ : ∃ q, plainC c = q := ⟨_, rfl⟩
  have HQ := box hq
  unfold plainC at hq
  rw [e32, e9, e40, e41, e44, e34] at hq
  rw [HQ.out]
  clear e32 e9 e40 e41 e44 e34
  rcases t32 : ((c.toNat : Int) == 32) with _ | _
  rotate_left
  · obtain rfl : q = false := by rw [← hq, t32]; simp
    clear hq
    go_enter Try.func64, Try.ntmps64
    go_wp2
    go_ret
    exact ⟨rfl, rfl⟩
  rcases t9 : ((c.toNat : Int) == 9) with _ | _
  rotate_left
  · obtain rfl : q = false := by rw [← hq, t32, t9]; simp
    clear hq
    go_enter Try.func64, Try.ntmps64
    go_wp2
    go_ret
    exact ⟨rfl, rfl⟩
  rcases t40 : ((c.toNat : Int) == 40) with _ | _
  rotate_left
  · obtain rfl : q = false := by rw [← hq, t32, t9, t40]; simp
    clear hq
    go_enter Try.func64, Try.ntmps64
    go_wp2
    go_ret
    exact ⟨rfl, rfl⟩
  rcases t41 : ((c.toNat : Int) == 41) with _ | _
  rotate_left
  · obtain rfl : q = false := by rw [← hq, t32, t9, t40, t41]; simp
    clear hq
    go_enter Try.func64, Try.ntmps64
    go_wp2
    go_ret
    exact ⟨rfl, rfl⟩
  rcases t44 : ((c.toNat : Int) == 44) with _ | _
  rotate_left
  · obtain rfl : q = false := by rw [← hq, t32, t9, t40, t41, t44]; simp
    clear hq
    go_enter Try.func64, Try.ntmps64
    go_wp2
    go_ret
    exact ⟨rfl, rfl⟩
  rcases t34 : ((c.toNat : Int) == 34) with _ | _
  rotate_left
  · obtain rfl : q = false := by rw [← hq, t32, t9, t40, t41, t44, t34]; simp
    clear hq
    go_enter Try.func64, Try.ntmps64
    go_wp2
    go_ret
    exact ⟨rfl, rfl⟩
  obtain rfl : q = true := by rw [← hq, t32, t9, t40, t41, t44, t34]; rfl
  clear hq
  go_enter Try.func64, Try.ntmps64
  go_wp2
  go_ret
  exact ⟨rfl, rfl⟩
theorem mayStand_is {c : UInt8} {b : Bool} {w : World} (h : Box (plainC c = b)) :
    Calls Try.prog 64 #[.int .u8 (c.toNat : Int)] w fun e w' => e = .returned (.bool b) ∧ w = w' :=
  (mayStand_any c w).mono fun e w' ⟨h1, h2⟩ => ⟨by rw [h1, h.out], h2⟩
/-- a byte that is written outside quoted strings -/
def writC (c : UInt8) : Bool := visI c.toNat && plainC c
theorem isWrit_any (c : UInt8) (w : World) :
    Calls Try.prog 54 #[.int .u8 (c.toNat : Int)] w fun e w' => e = .returned (.bool (writC c)) ∧ w = w' := by
  obtain ⟨q, hq⟩ : ∃ q, plainC c = q := ⟨_, rfl⟩
  have HQ := box hq
  have hv : writC c = (visI c.toNat && q) := by unfold writC; rw [hq]
  rw [hv]
  clear hq hv
  by_cases h1 : (33 : Int) ≤ (c.toNat : Int)
  · by_cases h2 : (c.toNat : Int) ≤ 126
    · have hv : visI c.toNat = true := by unfold visI; exact decide_eq_true ⟨h1, h2⟩
      rw [hv]
      clear hv
      go_enter Try.func54, Try.ntmps54
      go_wp2_with fail
      refine (mayStand_is HQ).mono ?_; rintro e w1 ⟨rfl, rfl⟩
      go_wp2
      go_ret
      exact ⟨rfl, rfl⟩
    · have hv : visI c.toNat = false := by unfold visI; exact decide_eq_false (fun h => h2 h.2)
      rw [hv]
      clear hv
      go_enter Try.func54, Try.ntmps54
      go_wp2
      go_ret
      exact ⟨rfl, rfl⟩
  · have hv : visI c.toNat = false := by unfold visI; exact decide_eq_false (fun h => h1 h.1)
    rw [hv]
    clear hv
    go_enter Try.func54, Try.ntmps54
    go_wp2
    go_ret
    exact ⟨rfl, rfl⟩
theorem isWrit_is {c : UInt8} {b : Bool} {w : World} (h : Box (writC c = b)) :
    Calls Try.prog 54 #[.int .u8 (c.toNat : Int)] w fun e w' => e = .returned (.bool b) ∧ w = w' :=
  (isWrit_any c w).mono fun e w' ⟨h1, h2⟩ => ⟨by rw [h1, h.out], h2⟩
/-- one or more bytes, all permitted -/
def conL (P : UInt8 → Bool) (l : List UInt8) : Bool := l.all P && !l.isEmpty
theorem con_more {P : UInt8 → Bool} {s : ByteArray} {k : Nat} (h : (s.data.toList.take k).all P = true) (hk : k < s.size) (hp : P s[k] = true) : (s.data.toList.take (k + 1)).all P = true := by
  rw [take_snoc s k hk, List.all_append, h]; simpa using hp
theorem con_no {P : UInt8 → Bool} {s : ByteArray} {k : Nat} (hk : k < s.size) (hp : P s[k] = false) : conL P s.data.toList = false := by
  have hl : k < s.data.toList.length := by simpa using hk
  have : s.data.toList.all P = false := by rw [List.all_eq_false]; exact ⟨s.data.toList[k], List.getElem_mem hl, by rw [show s.data.toList[k] = s[k] from rfl, hp]; simp⟩
  unfold conL; rw [this]; rfl
theorem con_end {P : UInt8 → Bool} {s : ByteArray} (h : (s.data.toList.take s.size).all P = true) : conL P s.data.toList = !(s.toList.isEmpty) := by
  rw [List.take_of_length_le (by simp)] at h
  unfold conL; rw [h, toList_data]; rfl
theorem conRead_any (s : ByteArray) (z : Bool) (w : World) (hs : s.size ≤ 65000) (hz : Box (conL plainC s.data.toList = z)) :
    Calls Try.prog 53 #[.string s, .func (.func 64) #[] #[]] w fun e w' => e = .returned (.bool z) ∧ w = w' := by
  go_enter Try.func53, Try.ntmps53
  go_wp2
  go_loop [8] (fun i => ∃ k : Nat, i = .int .i64 k ∧ k ≤ s.size ∧ Box ((s.data.toList.take k).all plainC = true)) (fun i => s.size - (intOf i).toNat)
  case atStart => exact ⟨0, rfl, Nat.zero_le _, box rfl⟩
  case round =>
    obtain ⟨k, rfl, hk, HA⟩ := hrel
    by_cases hlt : k < s.size
    · have hki : (k : Int) < (s.size : Int) := by omega
      obtain ⟨c, hc⟩ : ∃ c, s[k] = c := ⟨_, rfl⟩
      obtain ⟨q, hq⟩ : ∃ q, plainC c = q := ⟨_, rfl⟩
      have HQ := box hq
      cases q with
      | true =>
        have HN := box (con_more HA.out hlt (by rw [hc, hq]))
        clear hq
        go_wp2_with fail
        refine (mayStand_is HQ).mono ?_; rintro e w1 ⟨rfl, rfl⟩
        go_wp2
        go_round
        case rel => exact ⟨k + 1, by go_num, hlt, HN⟩
        case measure => simp [intOf]; omega
      | false =>
        have HN : Box (z = false) := box (by rw [← hz.out]; exact con_no hlt (by rw [hc, hq]))
        clear hq
        go_wp2_with fail
        refine (mayStand_is HQ).mono ?_; rintro e w1 ⟨rfl, rfl⟩
        go_wp2
        go_ret
        exact ⟨by rw [HN.out]; rfl, rfl⟩
    · have hki : ¬ (k : Int) < (s.size : Int) := by omega
      obtain rfl : k = s.size := by omega
      have HN : Box (z = !(s.toList.isEmpty)) := box (by rw [← hz.out]; exact con_end HA.out)
      go_wp2
      go_ret
      exact ⟨by rw [HN.out]; rfl, rfl⟩
theorem conWrit_any (s : ByteArray) (z : Bool) (w : World) (hs : s.size ≤ 65000) (hz : Box (conL writC s.data.toList = z)) :
    Calls Try.prog 53 #[.string s, .func (.func 54) #[] #[]] w fun e w' => e = .returned (.bool z) ∧ w = w' := by
  go_enter Try.func53, Try.ntmps53
  go_wp2
  go_loop [8] (fun i => ∃ k : Nat, i = .int .i64 k ∧ k ≤ s.size ∧ Box ((s.data.toList.take k).all writC = true)) (fun i => s.size - (intOf i).toNat)
  case atStart => exact ⟨0, rfl, Nat.zero_le _, box rfl⟩
  case round =>
    obtain ⟨k, rfl, hk, HA⟩ := hrel
    by_cases hlt : k < s.size
    · have hki : (k : Int) < (s.size : Int) := by omega
      obtain ⟨c, hc⟩ : ∃ c, s[k] = c := ⟨_, rfl⟩
      obtain ⟨q, hq⟩ : ∃ q, writC c = q := ⟨_, rfl⟩
      have HQ := box hq
      cases q with
      | true =>
        have HN := box (con_more HA.out hlt (by rw [hc, hq]))
        clear hq
        go_wp2_with fail
        refine (isWrit_is HQ).mono ?_; rintro e w1 ⟨rfl, rfl⟩
        go_wp2
        go_round
        case rel => exact ⟨k + 1, by go_num, hlt, HN⟩
        case measure => simp [intOf]; omega
      | false =>
        have HN : Box (z = false) := box (by rw [← hz.out]; exact con_no hlt (by rw [hc, hq]))
        clear hq
        go_wp2_with fail
        refine (isWrit_is HQ).mono ?_; rintro e w1 ⟨rfl, rfl⟩
        go_wp2
        go_ret
        exact ⟨by rw [HN.out]; rfl, rfl⟩
    · have hki : ¬ (k : Int) < (s.size : Int) := by omega
      obtain rfl : k = s.size := by omega
      have HN : Box (z = !(s.toList.isEmpty)) := box (by rw [← hz.out]; exact con_end HA.out)
      go_wp2
      go_ret
      exact ⟨by rw [HN.out]; rfl, rfl⟩
theorem Unq15_none {s : ByteArray} {w : World} (hs : s.size ≤ 4294967296) (h : Box (unqL s.data.toList = none)) :
    Calls Try.prog 65 #[.string s] w fun e w' => e = .returned (.tuple #[.string ⟨#[]⟩, .bool false]) ∧ Below w.heap.size w w' :=
  (Unquote_any s w hs).mono fun e w' ⟨h1, h2⟩ => ⟨by rw [h1, h.out]; rfl, h2⟩
theorem Unq15_some {s x : ByteArray} {u : List UInt8} {w : World} (hs : s.size ≤ 4294967296) (h : Box (unqL s.data.toList = some u ∧ bs u = x)) :
    Calls Try.prog 65 #[.string s] w fun e w' => e = .returned (.tuple #[.string x, .bool true]) ∧ Below w.heap.size w w' :=
  (Unquote_any s w hs).mono fun e w' ⟨h1, h2⟩ => ⟨by rw [h1, h.out.1, ← h.out.2]; rfl, h2⟩
theorem read_con {l : List UInt8} (h : l ≠ []) : readV l = if conL plainC l = true then some l else unqL l := by
  unfold readV conL
  cases l with
  | nil => exact absurd rfl h
  | cons c r => simp
theorem word_con (l : List UInt8) : wordW l = if conL writC l = true then l else quoteL l := by
  have e : conL writC l = (visL l && l.all plainC) := by
    unfold conL visL writC allI
    rw [Bool.eq_iff_iff]
    simp only [Bool.and_eq_true, List.all_eq_true]
    constructor
    · rintro ⟨h1, h2⟩; exact ⟨⟨h2, fun c hc => (h1 c hc).1⟩, fun c hc => (h1 c hc).2⟩
    · rintro ⟨⟨h1, h2⟩, h3⟩; exact ⟨fun c hc => ⟨h2 c hc, h3 c hc⟩, h1⟩
  unfold wordW
  rw [e]
/-- the value that a piece stands for, in parts -/
def rdV (t : ByteArray) : Value := match readV t.data.toList with
  | some v => .tuple #[.string (bs v), .bool true]
  | none => .tuple #[.string ⟨#[]⟩, .bool false]
theorem parseVal_any (t : ByteArray) (v : Value) (w : World) (ht : t.size ≤ 65000) (hne : Box (t.data.toList ≠ [])) (hv : Box (rdV t = v)) :
    Calls Try.prog 50 #[.string t] w fun e w' => e = .returned v ∧ Below w.heap.size w w' := by
  obtain ⟨q, hq⟩ : ∃ q, conL plainC t.data.toList = q := ⟨_, rfl⟩
  have HQ := box hq
  have ht4 : t.size ≤ 4294967296 := by omega
  cases q with
  | true =>
    have HV : Box (v = .tuple #[.string t, .bool true]) := box (by
      rw [← hv.out]; unfold rdV; rw [read_con hne.out, hq, if_pos rfl]; show Value.tuple #[.string (bs t.data.toList), .bool true] = _; rw [← bs_of t])
    clear hq
    go_enter Try.func50, Try.ntmps50
    go_wp2_with fail
    refine (conRead_any t true _ ht HQ).mono ?_; rintro e w1 ⟨rfl, rfl⟩
    go_wp2
    go_ret2
    exact ⟨by rw [HV.out]; rfl, Below.refl _ _⟩
  | false =>
    cases hu : unqL t.data.toList with
    | none =>
      have HV : Box (v = .tuple #[.string ⟨#[]⟩, .bool false]) := box (by
        rw [← hv.out]; unfold rdV; rw [read_con hne.out, hq, if_neg (by simp), hu])
      have HU := box hu
      clear hq hu
      go_enter Try.func50, Try.ntmps50
      go_wp2_with fail
      refine (conRead_any t false _ ht HQ).mono ?_; rintro e w1 ⟨rfl, rfl⟩
      go_wp2_with fail
      refine (Unq15_none ht4 HU).mono ?_; rintro e w2 ⟨rfl, hb2⟩
      have B2 := box hb2
      clear hb2
      go_wp2
      go_ret2
      exact ⟨by rw [HV.out]; rfl, B2.out⟩
    | some u =>
      have HV : Box (v = .tuple #[.string (bs u), .bool true]) := box (by
        rw [← hv.out]; unfold rdV; rw [read_con hne.out, hq, if_neg (by simp), hu])
      obtain ⟨x, hx⟩ : ∃ x, bs u = x := ⟨_, rfl⟩
      have HU : Box (unqL t.data.toList = some u ∧ bs u = x) := box ⟨hu, hx⟩
      rw [hx] at HV
      clear hq hu hx
      go_enter Try.func50, Try.ntmps50
      go_wp2_with fail
      refine (conRead_any t false _ ht HQ).mono ?_; rintro e w1 ⟨rfl, rfl⟩
      go_wp2_with fail
      refine (Unq15_some ht4 HU).mono ?_; rintro e w2 ⟨rfl, hb2⟩
      have B2 := box hb2
      clear hb2
      go_wp2
      go_ret2
      exact ⟨by rw [HV.out]; rfl, B2.out⟩
theorem formatVal_any (t x : ByteArray) (w : World) (ht : t.size ≤ 65000) (hv : Box (bs (wordW t.data.toList) = x)) :
    Calls Try.prog 39 #[.string t] w fun e w' => e = .returned (.string x) ∧ Below w.heap.size w w' := by
  obtain ⟨q, hq⟩ : ∃ q, conL writC t.data.toList = q := ⟨_, rfl⟩
  have HQ := box hq
  have ht4 : t.size ≤ 1073741824 := by omega
  cases q with
  | true =>
    have HV : Box (x = t) := box (by rw [← hv.out, word_con, hq, if_pos rfl, ← bs_of t])
    clear hq
    go_enter Try.func39, Try.ntmps39
    go_wp2_with fail
    refine (conWrit_any t true _ ht HQ).mono ?_; rintro e w1 ⟨rfl, rfl⟩
    go_wp2
    go_ret
    exact ⟨by rw [HV.out]; rfl, Below.refl _ _⟩
  | false =>
    have HV : Box (bs (quoteL t.data.toList) = x) := box (by rw [← hv.out, word_con, hq, if_neg (by simp)])
    clear hq
    go_enter Try.func39, Try.ntmps39
    go_wp2_with fail
    refine (conWrit_any t false _ ht HQ).mono ?_; rintro e w1 ⟨rfl, rfl⟩
    go_wp2_with fail
    refine (aQuote_is ht4 HV).mono ?_; rintro e w2 ⟨rfl, hb2⟩
    have B2 := box hb2
    clear hb2
    go_wp2
    go_ret
    exact ⟨rfl, B2.out⟩
end
section
open Go.RowKit
theorem one_pre {s : ByteArray} {c : UInt8} (h : 1 ≤ s.size) : ((s.extract 0 1).toList == [c]) = decide (s.data.toList.head? = some c) := by
  have h2 : (s.extract 0 1).toList = s.data.toList.take 1 := by
    rw [toList_data, ByteArray.data_extract, Array.toList_extract, List.extract_eq_take_drop, List.drop_zero]
  rw [h2]
  have hl : s.data.toList.length = s.size := by simp
  cases e : s.data.toList with
  | nil => rw [e] at hl; simp only [List.length_nil] at hl; omega
  | cons d r =>
    rw [List.take_succ_cons, List.take_zero, List.head?_cons]
    by_cases q : d = c
    · subst q; simp
    · rw [decide_eq_false (by simpa using q)]; exact beq_eq_false_iff_ne.2 (by simpa using q)
theorem one_suf {s : ByteArray} {c : UInt8} (h : 1 ≤ s.size) : ((s.extract (s.size - 1) s.size).toList == [c]) = decide (s.data.toList.getLast? = some c) := by
  have hl : s.data.toList.length = s.size := by simp
  have h2 : (s.extract (s.size - 1) s.size).toList = s.data.toList.drop (s.size - 1) := by
    rw [toList_data, ByteArray.data_extract, Array.toList_extract, List.extract_eq_take_drop, List.take_of_length_le (by rw [List.length_drop, hl]; omega)]
  rw [h2, ← hl]
  have hne : s.data.toList ≠ [] := fun e => by rw [e] at hl; simp at hl; omega
  have e2 : s.data.toList.drop (s.data.toList.length - 1) = [s.data.toList.getLast hne] := by
    obtain ⟨a, d, ha⟩ : ∃ a d, s.data.toList = a ++ [d] := ⟨_, _, (List.dropLast_concat_getLast hne).symm⟩
    have hg : s.data.toList.getLast hne = d := by simp [ha]
    rw [hg, ha]; simp
  rw [e2, List.getLast?_eq_some_getLast hne]
  by_cases q : s.data.toList.getLast hne = c
  · rw [q]; simp
  · rw [decide_eq_false (by simpa using q)]; exact beq_eq_false_iff_ne.2 (by simpa using q)
theorem hasPre40_is {s : ByteArray} {b : Bool} {w : World} (hs : s.size ≤ 65000) (h : Box (decide (s.data.toList.head? = some 40) = b)) :
    Calls Try.prog 74 #[.string s, .string ⟨#[40]⟩] w fun e w' => e = .returned (.bool b) ∧ w = w' := by
  by_cases h1 : 1 ≤ s.size
  · have hi : (1 : Int) ≤ (s.size : Int) := by omega
    have ht := one_pre (c := 40) h1
    rw [h.out] at ht
    go_enter Try.func74, Try.ntmps74
    go_wp2
    go_ret
    exact ⟨rfl, rfl⟩
  · have hi : ¬ (1 : Int) ≤ (s.size : Int) := by omega
    have hb : b = false := by
      rw [← h.out]
      have : s.data.toList = [] := List.eq_nil_of_length_eq_zero (by have : s.data.toList.length = s.size := by simp
                                                                     omega)
      rw [this]; rfl
    subst hb
    go_enter Try.func74, Try.ntmps74
    go_wp2
    go_ret
    exact ⟨rfl, rfl⟩
theorem hasSuf41_is {s : ByteArray} {b : Bool} {w : World} (hs : s.size ≤ 65000) (h : Box (decide (s.data.toList.getLast? = some 41) = b)) :
    Calls Try.prog 75 #[.string s, .string ⟨#[41]⟩] w fun e w' => e = .returned (.bool b) ∧ w = w' := by
  by_cases h1 : 1 ≤ s.size
  · have hi : (1 : Int) ≤ (s.size : Int) := by omega
    have ht := one_suf (c := 41) h1
    obtain ⟨p, hp⟩ : ∃ p, s.size - 1 = p := ⟨_, rfl⟩
    have hpi : (s.size : Int) - 1 = (p : Int) := by omega
    have hps : (p : Int) ≤ (s.size : Int) := by omega
    rw [h.out, hp] at ht
    clear hp h1
    go_enter Try.func75, Try.ntmps75
    go_wp2
    go_ret
    exact ⟨rfl, rfl⟩
  · have hi : ¬ (1 : Int) ≤ (s.size : Int) := by omega
    have hb : b = false := by
      rw [← h.out]
      have : s.data.toList = [] := List.eq_nil_of_length_eq_zero (by have : s.data.toList.length = s.size := by simp
                                                                     omega)
      rw [this]; rfl
    subst hb
    go_enter Try.func75, Try.ntmps75
    go_wp2
    go_ret
    exact ⟨rfl, rfl⟩
/-- behind the '(' at the beginning -/
theorem scutPre40_yes {s : ByteArray} {w : World} (hs : s.size ≤ 65000) (h : Box (s.data.toList.head? = some 40)) :
    Calls Try.prog 62 #[.string s, .string ⟨#[40]⟩] w fun e w' => e = .returned (.tuple #[.string (s.extract 1 s.size), .bool true]) ∧ w = w' := by
  have HB : Box (decide (s.data.toList.head? = some 40) = true) := box (decide_eq_true h.out)
  have h1 : (1 : Int) ≤ (s.size : Int) := by
    have hl : s.data.toList.length = s.size := by simp
    have hh := h.out
    have : s.data.toList ≠ [] := fun e => by rw [e] at hh; cases hh
    have := List.length_pos_iff.2 this
    omega
  go_enter Try.func62, Try.ntmps62
  go_wp2_with fail
  refine (hasPre40_is hs HB).mono ?_; rintro e w1 ⟨rfl, rfl⟩
  go_wp2
  go_ret2
  exact ⟨rfl, rfl⟩
theorem cutPre40_yes {s : ByteArray} {w : World} (hs : s.size ≤ 65000) (h : Box (s.data.toList.head? = some 40)) :
    Calls Try.prog 48 #[.string s, .string ⟨#[40]⟩] w fun e w' => e = .returned (.tuple #[.string (s.extract 1 s.size), .bool true]) ∧ w = w' := by
  go_enter Try.func48, Try.ntmps48
  go_wp2_with fail
  refine (scutPre40_yes hs h).mono ?_; rintro e w1 ⟨rfl, rfl⟩
  go_wp2
  go_ret2
  exact ⟨rfl, rfl⟩
theorem scutPre40_no {s : ByteArray} {w : World} (hs : s.size ≤ 65000) (h : Box (s.data.toList.head? ≠ some 40)) :
    Calls Try.prog 62 #[.string s, .string ⟨#[40]⟩] w fun e w' => e = .returned (.tuple #[.string s, .bool false]) ∧ w = w' := by
  have HB : Box (decide (s.data.toList.head? = some 40) = false) := box (decide_eq_false h.out)
  go_enter Try.func62, Try.ntmps62
  go_wp2_with fail
  refine (hasPre40_is hs HB).mono ?_; rintro e w1 ⟨rfl, rfl⟩
  go_wp2
  go_ret2
  exact ⟨rfl, rfl⟩
theorem cutPre40_no {s : ByteArray} {w : World} (hs : s.size ≤ 65000) (h : Box (s.data.toList.head? ≠ some 40)) :
    Calls Try.prog 48 #[.string s, .string ⟨#[40]⟩] w fun e w' => e = .returned (.tuple #[.string s, .bool false]) ∧ w = w' := by
  go_enter Try.func48, Try.ntmps48
  go_wp2_with fail
  refine (scutPre40_no hs h).mono ?_; rintro e w1 ⟨rfl, rfl⟩
  go_wp2
  go_ret2
  exact ⟨rfl, rfl⟩
/-- ahead of the ')' at the end -/
theorem scutSuf41_yes {s : ByteArray} {w : World} (hs : s.size ≤ 65000) (h : Box (s.data.toList.getLast? = some 41)) :
    Calls Try.prog 63 #[.string s, .string ⟨#[41]⟩] w fun e w' => e = .returned (.tuple #[.string (s.extract 0 (s.size - 1)), .bool true]) ∧ w = w' := by
  have HB : Box (decide (s.data.toList.getLast? = some 41) = true) := box (decide_eq_true h.out)
  have h1 : (1 : Int) ≤ (s.size : Int) := by
    have hl : s.data.toList.length = s.size := by simp
    have hh := h.out
    have : s.data.toList ≠ [] := fun e => by rw [e] at hh; cases hh
    have := List.length_pos_iff.2 this
    omega
  obtain ⟨p, hp⟩ : ∃ p, s.size - 1 = p := ⟨_, rfl⟩
  have hpi : (s.size : Int) - 1 = (p : Int) := by omega
  have hps : (p : Int) ≤ (s.size : Int) := by omega
  have hpn : p ≤ s.size := by omega
  rw [hp]
  clear hp
  go_enter Try.func63, Try.ntmps63
  go_wp2_with fail
  refine (hasSuf41_is hs HB).mono ?_; rintro e w1 ⟨rfl, rfl⟩
  go_wp2
  go_ret2
  exact ⟨rfl, rfl⟩
theorem cutSuf41_yes {s : ByteArray} {w : World} (hs : s.size ≤ 65000) (h : Box (s.data.toList.getLast? = some 41)) :
    Calls Try.prog 49 #[.string s, .string ⟨#[41]⟩] w fun e w' => e = .returned (.tuple #[.string (s.extract 0 (s.size - 1)), .bool true]) ∧ w = w' := by
  go_enter Try.func49, Try.ntmps49
  go_wp2_with fail
  refine (scutSuf41_yes hs h).mono ?_; rintro e w1 ⟨rfl, rfl⟩
  go_wp2
  go_ret2
  exact ⟨rfl, rfl⟩
theorem scutSuf41_no {s : ByteArray} {w : World} (hs : s.size ≤ 65000) (h : Box (s.data.toList.getLast? ≠ some 41)) :
    Calls Try.prog 63 #[.string s, .string ⟨#[41]⟩] w fun e w' => e = .returned (.tuple #[.string s, .bool false]) ∧ w = w' := by
  have HB : Box (decide (s.data.toList.getLast? = some 41) = false) := box (decide_eq_false h.out)
  go_enter Try.func63, Try.ntmps63
  go_wp2_with fail
  refine (hasSuf41_is hs HB).mono ?_; rintro e w1 ⟨rfl, rfl⟩
  go_wp2
  go_ret2
  exact ⟨rfl, rfl⟩
theorem cutSuf41_no {s : ByteArray} {w : World} (hs : s.size ≤ 65000) (h : Box (s.data.toList.getLast? ≠ some 41)) :
    Calls Try.prog 49 #[.string s, .string ⟨#[41]⟩] w fun e w' => e = .returned (.tuple #[.string s, .bool false]) ∧ w = w' := by
  go_enter Try.func49, Try.ntmps49
  go_wp2_with fail
  refine (scutSuf41_no hs h).mono ?_; rintro e w1 ⟨rfl, rfl⟩
  go_wp2
  go_ret2
  exact ⟨rfl, rfl⟩
end
section
open Go.RowKit
/-- the lengths of the first k -/
def lenT (L : List ByteArray) (k : Nat) : Nat := ((L.take k).map (·.size)).sum
theorem lenT_next {L : List ByteArray} {k : Nat} (h : k < L.length) : lenT L (k + 1) = lenT L k + L[k].size := by
  unfold lenT; rw [List.take_add_one, List.getElem?_eq_getElem h, Option.toList_some, List.map_append, List.sum_append]; rfl
theorem lenT_le {L : List ByteArray} (hz : ∀ x ∈ L, x.size ≤ 65536) : ∀ k, lenT L k ≤ k * 65536
  | 0 => by simp [lenT]
  | k + 1 => by
    have ih := lenT_le hz k
    by_cases h : k < L.length
    · rw [lenT_next h]; have := hz L[k] (List.getElem_mem h); omega
    · have e : lenT L (k + 1) = lenT L k := by unfold lenT; rw [List.take_of_length_le (by omega), List.take_of_length_le (by omega)]
      omega
theorem joinC_len {ms : List (List UInt8)} (hz : ∀ x ∈ ms, x.length ≤ 65536) : ∀ k, (joinC (ms.take k)).length ≤ k * 65540
  | 0 => by simp [joinC]
  | k + 1 => by
    have ih := joinC_len hz k
    by_cases h : k < ms.length
    · have := hz ms[k] (List.getElem_mem h)
      rw [joinC_more h]
      split
      · omega
      · simp only [List.length_append, List.length_cons, List.length_nil]; omega
    · have e : ms.take (k + 1) = ms.take k := by rw [List.take_of_length_le (by omega), List.take_of_length_le (by omega)]
      rw [e]
      exact Nat.le_trans ih (Nat.mul_le_mul_right _ (Nat.le_succ k))
theorem joinC_two {a b : List UInt8} {r : List (List UInt8)} : joinC (a :: b :: r) ≠ [] := by
  show a ++ [44, 32] ++ joinC (b :: r) ≠ []
  simp
theorem Join0_any (a : Option Addr) (cap : Nat) (w : World) :
    Calls Try.prog 40 #[.slice a 0 cap, .string ⟨#[44, 32]⟩] w fun e w' => e = .returned (.string ⟨#[]⟩) ∧ w = w' := by
  go_enter Try.func40, Try.ntmps40
  go_wp2
  go_ret
  exact ⟨rfl, rfl⟩
theorem Join1_any (q off cap : Nat) (x : ByteArray) (w : World) (c0 : w.cell? ⟨q, off, none⟩ = some (.string x)) :
    Calls Try.prog 40 #[.slice (some ⟨q, off, none⟩) 1 cap, .string ⟨#[44, 32]⟩] w fun e w' => e = .returned (.string x) ∧ w = w' := by
  go_enter Try.func40, Try.ntmps40
  go_wp2
  go_ret
  exact ⟨rfl, rfl⟩
def Jn1 (L : List ByteArray) (n i : Value) : Prop := ∃ k : Nat, k ≤ L.length ∧ i = .int .i64 k ∧ n = .int .i64 ((2 * (L.length - 1) + lenT L k : Nat) : Int)
def Jn2 (ms : List (List UInt8)) (B : Nat) (w : World) (i : Value) (wr : World) : Prop := ∃ k : Nat, k + 1 ≤ ms.length ∧ i = .int .i64 k ∧ Box (Bld wr B B (joinC (ms.take (k + 1)))) ∧ Box (Below B w wr)
set_option maxHeartbeats 2000000 in
theorem JoinN_any (q off cap : Nat) (L : List ByteArray) (w : World) (h2 : 2 ≤ L.length) (hl : L.length ≤ 65536) (hcap : L.length ≤ cap) (hz : Box (∀ x ∈ L, x.size ≤ 65536)) (hF : Box (Ss w (some ⟨q, off, none⟩) L)) :
    Calls Try.prog 40 #[.slice (some ⟨q, off, none⟩) L.length cap, .string ⟨#[44, 32]⟩] w fun e w' => e = .returned (.string (joinB L)) ∧ Below w.heap.size w w' := by
  have hdv : ¬ (9223372036854775807 / ((L.length : Int) - 1) ≤ 2) := by
    have : 3 ≤ 9223372036854775807 / ((L.length : Int) - 1) := by
      rw [Int.le_ediv_iff_mul_le (by omega)]; omega
    omega
  have hne0 : ((L.length : Int) == 0) = false := beq_eq_false_iff_ne.2 (by omega)
  have hne1 : ((L.length : Int) == 1) = false := beq_eq_false_iff_ne.2 (by omega)
  go_enter Try.func40, Try.ntmps40
  go_wp2_with fail
  go_loop [5, 41] (fun n i => Jn1 L n i) (fun _ i => L.length - (intOf i).toNat)
  case atStart => exact ⟨0, Nat.zero_le _, rfl, by unfold lenT; simp; omega⟩
  case round =>
    obtain ⟨k, hk, rfl, rfl⟩ := hrel
    have hlz := lenT_le hz.out k
    by_cases hlt : k < L.length
    · obtain ⟨q', off', e, c0⟩ := hF.out k hlt
      cases e
      have hx := hz.out L[k] (List.getElem_mem hlt)
      have HN := box (lenT_next hlt)
      obtain ⟨A, hA⟩ : ∃ A, lenT L k = A := ⟨_, rfl⟩
      have HA := box hA
      rw [hA] at hlz ⊢
      clear hA
      go_wp2
      go_round
      case rel => exact ⟨k + 1, by omega, by go_num, by rw [HN.out, HA.out]; go_num⟩
      case measure => simp [intOf]; omega
    · obtain rfl : k = L.length := by omega
      obtain ⟨n, hn⟩ : ∃ n, 2 * (L.length - 1) + lenT L L.length = n := ⟨_, rfl⟩
      have hn8 : n ≤ 281474976710656 := by omega
      rw [hn]
      clear hn hlz
      obtain ⟨ms, hms⟩ : ∃ ms, (L.map fun x => x.data.toList) = ms := ⟨_, rfl⟩
      have HJ : Box (joinB L = bs (joinC ms)) := box (by unfold joinB; rw [hms])
      have hml : ms.length = L.length := by rw [← hms, List.length_map]
      have HME : Box (∀ k (h : k < L.length), ms[k]'(by omega) = L[k].data.toList) := box (fun k h => by simp only [← hms, List.getElem_map])
      have HML : Box (∀ x ∈ ms, x.length ≤ 65536) := box (fun x hx => by
        rw [← hms] at hx
        obtain ⟨y, hy, rfl⟩ := List.mem_map.mp hx
        have := hz.out y hy
        simpa using this)
      clear hms
      have hq : q < w.heap.size := by
        obtain ⟨q', off', e, c0⟩ := hF.out 0 (by omega)
        cases e
        exact cell_lt c0
      go_wp2_with fail
      refine (Grow_new w.heap.size w.heap.size n _ (Nat.le_refl _) (heap_alloc_new w _) (by simp) hn8).mono ?_; rintro e w1 ⟨rfl, hA1, hb1⟩
      have A1 : Box (Bld w1 w.heap.size w.heap.size []) := box (.inr hA1)
      have B1 := box ((below_new w _).trans hb1)
      have hs1 := B1.out.size
      clear hA1 hb1
      have hl0 : 0 < L.length := by omega
      obtain ⟨q', off', e, c0⟩ := (hF.out.below B1.out) 0 hl0
      cases e
      rw [Nat.add_zero] at c0
      have hx0 := hz.out L[0] (List.getElem_mem hl0)
      go_wp2_with fail
      refine (WriteString_any w.heap.size w.heap.size [] L[0] _ A1 (by rw [List.length_nil]; omega) hs1).mono ?_; rintro e w2 ⟨rfl, hA2, hb2⟩
      have A2 : Box (Bld w2 w.heap.size w.heap.size (joinC (ms.take 1))) := box (.inr (by
        rw [joinC_more (k := 0) (by omega), if_pos rfl, HME.out 0 hl0]; exact hA2))
      have B2 := box (B1.out.trans hb2)
      clear hA2 hb2 c0
      go_wp2_with fail
      go_loopw [65] (fun i wr => Jn2 ms w.heap.size w i wr) (fun i _ => L.length - (intOf i).toNat)
      case atStart => exact ⟨0, by omega, rfl, A2, B2⟩
      case round =>
        obtain ⟨k, hk, rfl, A3, B3⟩ := hrel
        have hs3 := B3.out.size
        have hjl := joinC_len HML.out (k + 1)
        by_cases hlt : k + 1 < L.length
        · obtain ⟨q', off', e, c0⟩ := (hF.out.below B3.out) (k + 1) hlt
          cases e
          rw [show off + (k + 1) = off + 1 + k from by omega] at c0
          have hxk := hz.out L[k + 1] (List.getElem_mem hlt)
          go_wp2_with fail
          refine (WriteString_any w.heap.size w.heap.size _ ⟨#[44, 32]⟩ _ A3 (by show _ + 2 ≤ _; omega) hs3).mono ?_; rintro e w4 ⟨rfl, hA4, hb4⟩
          have A4 : Box (Bld w4 w.heap.size w.heap.size (joinC (ms.take (k + 1)) ++ [44, 32])) := box (.inr hA4)
          have B4 := box (B3.out.trans hb4)
          have hs4 := B4.out.size
          clear hA4 hb4
          go_wp2_with fail
          refine (WriteString_any w.heap.size w.heap.size _ L[k + 1] _ A4 (by rw [List.length_append]; show _ + 2 + _ ≤ _; omega) hs4).mono ?_; rintro e w5 ⟨rfl, hA5, hb5⟩
          have A5 : Box (Bld w5 w.heap.size w.heap.size (joinC (ms.take (k + 1 + 1)))) := box (.inr (by
            rw [joinC_more (k := k + 1) (by omega), if_neg (by omega), HME.out (k + 1) hlt]; exact hA5))
          have B5 := box (B4.out.trans hb5)
          clear hA5 hb5 c0
          go_wp2
          go_roundw
          case rel => exact ⟨k + 1, by omega, by go_num, A5, B5⟩
          case measure => simp [intOf]; omega
        · have hfull : ms.take (k + 1) = ms := List.take_of_length_le (by omega)
          rw [hfull] at A3
          have hne : joinC ms ≠ [] := by
            match ms, hml, h2 with
            | [], e, _ => simp at e; omega
            | [a], e, _ => simp at e; omega
            | a :: b :: r, _, _ => exact joinC_two
          go_wp2_with fail
          refine (String_any w.heap.size w.heap.size _ _ A3 hne).mono ?_; rintro e w6 ⟨rfl, hb6⟩
          have B6 := box (B3.out.trans hb6)
          clear hb6
          go_wp2
          go_ret
          exact ⟨by rw [HJ.out]; rfl, B6.out⟩
end
end Go.Proofs.Ytodbmdekgfcjpaa.Asc
