/- Merged texts: VarRef6 VarMem2 VarRef7 VarSpec7 KeySpec KeyMem VarRef5. -/
import Derived.Test.YtcnohcbhnldglaaM01
import Derived.Test.YtcnohcbhnldglaaM03
import Derived.Test.YtcnohcbhnldglaaM06
import Derived.Test.YtcnohcbhnldglaaM07
import Derived.Test.YtcnohcbhnldglaaM08
import Derived.Test.YtcnohcbhnldglaaM09
import Derived.Test.YtcnohcbhnldglaaM10
import Derived.Deep.AppendLies
import Derived.Lib.Hide
import Derived.LoopTactic
set_option linter.unusedVariables false
set_option linter.unusedSimpArgs false
set_option maxRecDepth 100000
namespace Go.Proofs.Ytcnohcbhnldglaa.Asc
section
open Go.RowKit
theorem byte_neq {c d : UInt8} : ((c.toNat : Int) != (d.toNat : Int)) = (c != d) := by
  by_cases h : c = d
  · subst h; simp
  · rw [bne_iff_ne.2 h, bne_iff_ne]
    intro e
    exact h (UInt8.toNat_inj.mp (by omega))
def valW (w w' : World) (T : Option (List (List UInt8))) (e : Ending) : Prop := ∃ v, e = .returned (.tuple #[v, .bool T.isSome]) ∧ OwnS w' w.heap.size v ((T.getD []).map bs) ∧ Below w.heap.size w w' ∧ (T = none → v = .slice none 0 0)
theorem valW_none {w w' : World} {T : Option (List (List UInt8))} (h : Box (T = none)) (hb : Below w.heap.size w w') : valW w w' T (.returned (.tuple #[.slice none 0 0, .bool false])) := by
  rw [h.out]; exact ⟨_, rfl, OwnS.nil _ _, hb, fun _ => rfl⟩
end
section
open Go.RowKit
theorem heap_lt {w : World} {b : Nat} {o : Obj} (h : w.heap[b]? = some o) : b < w.heap.size := by
  rcases Nat.lt_or_ge b w.heap.size with q | q
  · exact q
  · rw [Array.getElem?_eq_none q] at h; cases h
/-- the cells of the axes L, the values' lists owned, too -/
def CellsA (w : World) (B : Nat) (cs : List Value) (L : List AX) : Prop :=
  cs.length = 2 * L.length ∧ (∀ u ∈ cs, u.oneCell' = true) ∧ ∀ i (h : i < L.length), cs[i * 2]? = some (.string L[i].1) ∧ ∃ u, cs[i * 2 + 1]? = some u ∧ OwnS w B u L[i].2
def OwnAx (w : World) (B : Nat) (v : Value) (L : List AX) : Prop := ∃ cs, w.ownsRow B 33 2 v L.length cs ∧ CellsA w B cs L
theorem OwnS.ssv {w : World} {B : Nat} {v : Value} {V : List ByteArray} (h : OwnS w B v V) : SsV w v V := by
  obtain ⟨a, c, e, hs, hc⟩ := h.ss
  exact ⟨a, c, e, hs, hc⟩
theorem OwnAx.nil (w : World) (B : Nat) : OwnAx w B (.slice none 0 0) [] := ⟨[], World.ownsRow_nil _ _ _ _, rfl, by simp, fun i h => absurd h (by simp)⟩
theorem CellsA.next {w w' : World} {B : Nat} {cs : List Value} {L : List AX} (h : CellsA w B cs L) (hb : Below w.heap.size w w') : CellsA w' B cs L :=
  ⟨h.1, h.2.1, fun i hi => by obtain ⟨h1, u, h2, h3⟩ := h.2.2 i hi; exact ⟨h1, u, h2, own_below h3 hb⟩⟩
theorem OwnAx.next {w w' : World} {B : Nat} {v : Value} {L : List AX} (h : OwnAx w B v L) (hb : Below w.heap.size w w') : OwnAx w' B v L := by
  obtain ⟨cs, h1, h2⟩ := h
  exact ⟨cs, own_below h1 hb, h2.next hb⟩
theorem own_grown {w w' : World} {B n : Nat} {v u : Value} {cs : List Value} {V : List ByteArray} (hv : w.ownsRow B 33 2 v n cs) (hu : OwnS w B u V) (hg : w.grownBy w' v.ownBlock) : OwnS w' B u V := by
  refine ⟨hu.1, ?_⟩
  rcases hu.2 with q | ⟨g, cap, cur, hv2, hB, hgg, r⟩
  · exact .inl q
  · refine .inr ⟨g, cap, cur, hv2, hB, ?_, r⟩
    rw [hg.block g (heap_lt hgg) (fun e => ?_)]
    · exact hgg
    · rcases hv.2 with ⟨rfl, _⟩ | ⟨g2, cap2, cur2, rfl, _, hg2, _⟩
      · simp [Value.ownBlock] at e
      · simp [Value.ownBlock] at e
        subst e
        rw [hgg] at hg2
        simp at hg2
theorem CellsA.grown {w w' : World} {B n : Nat} {v : Value} {xs cs : List Value} {L : List AX} (h : CellsA w B cs L) (hv : w.ownsRow B 33 2 v n xs) (hg : w.grownBy w' v.ownBlock) : CellsA w' B cs L :=
  ⟨h.1, h.2.1, fun i hi => by obtain ⟨h1, u, h2, h3⟩ := h.2.2 i hi; exact ⟨h1, u, h2, own_grown hv h3 hg⟩⟩
theorem CellsA.more {w : World} {B : Nat} {cs : List Value} {L : List AX} {n : ByteArray} {u : Value} {V : List ByteArray} (h : CellsA w B cs L) (hu : OwnS w B u V) : CellsA w B (cs ++ [.string n, u]) (L ++ [(n, V)]) := by
  have hone : u.oneCell' = true := by obtain ⟨a, c, e, _⟩ := hu.ss; rw [e]; rfl
  refine ⟨by rw [List.length_append, List.length_append, h.1]; simp; omega, fun x hx => ?_, fun i hi => ?_⟩
  · rcases List.mem_append.1 hx with q | q
    · exact h.2.1 x q
    · simp at q
      rcases q with rfl | rfl
      · rfl
      · exact hone
  · by_cases e : i < L.length
    · obtain ⟨h1, y, h2, h3⟩ := h.2.2 i e
      have hl := h.1
      rw [List.getElem_append_left e, List.getElem?_append_left (by omega), List.getElem?_append_left (by omega)]
      exact ⟨h1, y, h2, h3⟩
    · have hie : i = L.length := by rw [List.length_append] at hi; simp at hi; omega
      subst hie
      have hl := h.1
      rw [List.getElem_append_right (Nat.le_refl _), List.getElem?_append_right (by omega), List.getElem?_append_right (by omega)]
      rw [show L.length * 2 - cs.length = 0 from by omega, show L.length * 2 + 1 - cs.length = 1 from by omega]
      simp only [Nat.sub_self]
      exact ⟨rfl, u, rfl, hu⟩
end
section
open Go.RowKit
theorem rHas15_is {a : Option Addr} {cap : Nat} {L : List F} {nm : ByteArray} {b : Bool} {w : World} (S : Box (Sm L)) (M : Box (nm.size ≤ 65536)) (hF : Box (Fs w a L)) (h : Box (L.any (nmd nm) = b)) :
    Calls Try.prog 8 #[.slice a L.length cap, .string nm] w fun e w' => e = .returned (.bool b) ∧ Below w.heap.size w w' :=
  (rHas_any a cap L nm w S.out.1 S M hF).mono fun e w' ⟨h1, h2⟩ => ⟨by rw [h1, h.out], h2⟩
theorem OwnAx.le {w : World} {B B' : Nat} {v : Value} {L : List AX} (h : OwnAx w B v L) (hB : B' ≤ B) : OwnAx w B' v L := by
  obtain ⟨cs, h1, h2⟩ := h
  exact ⟨cs, Go.Joins.ownsRow_le h1 hB, h2.1, h2.2.1, fun i hi => by obtain ⟨q1, u, q2, q3⟩ := h2.2.2 i hi; exact ⟨q1, u, q2, Go.Joins.ownsRow_le q3 hB⟩⟩
end
section
theorem keep_fit {L : List AX} (hk : keepA L = true) : L.length ≤ 6 ∧ (∀ i (hi : i < L.length), fitA L[i]) := by
  obtain ⟨hl, hp⟩ := keepA_parts hk
  exact ⟨hl, fun i hi => by obtain ⟨a1, a2, a3⟩ := hp i hi; exact ⟨by omega, by omega, fun v hv => by have := a3 v hv; omega⟩⟩
end
section
abbrev KY := List ByteArray
def nmKey : ByteArray := ⟨#[86, 97, 114, 105, 97, 110, 116, 45, 75, 101, 121]⟩
/-- the value of an axis that is the Same -/
def oneK (x : AX) (v : ByteArray) : Option ByteArray := x.2.find? fun y => sameV x.1 v y
/-- a key out of the values of a group, one axis after another -/
def keyA : List AX → KY → KY → Option KY
  | [], [], acc => some acc
  | x :: X, v :: V, acc => match oneK x v with
    | none => none
    | some y => keyA X V (acc ++ [y])
  | [], _ :: _, _ => none
  | _ :: _, [], _ => none
/-- is a key among these -/
def inKy (out : List KY) (k : KY) : Bool := out.any fun y => decide (y = k)
/-- the different keys -/
def keysA (X : List AX) : List KY → List KY → Option (List KY)
  | [], out => some out
  | r :: R, out => match keyA X r [] with
    | none => none
    | some k => keysA X R (if inKy out k = true then out else out ++ [k])
/-- the groups of the members -/
def rawsA : List (List UInt8) → List KY → Option (List KY)
  | [], acc => some acc
  | m :: ms, acc => match valuesL m with
    | none => none
    | some V => rawsA ms (acc ++ [V.map bs])
def keysR (L : List F) (X : List AX) : Int × List KY :=
  if validX X = false then (10, [])
  else if allL nmKey L = [] then (12, [])
  else match rawsA (allL nmKey L) [] with
    | none => (1, [])
    | some R => match keysA X R [] with
      | none => (11, [])
      | some K => (0, K)
theorem keysR_range {L : List F} {X : List AX} (h : validX X = false) : keysR L X = (10, []) := by unfold keysR; rw [if_pos h]
theorem keysR_state {L : List F} {X : List AX} (h : validX X = true) (h2 : allL nmKey L = []) : keysR L X = (12, []) := by unfold keysR; rw [if_neg (by rw [h]; simp), if_pos h2]
theorem keysR_bad {L : List F} {X : List AX} (h : validX X = true) (h2 : allL nmKey L ≠ []) (h3 : rawsA (allL nmKey L) [] = none) : keysR L X = (1, []) := by
  unfold keysR; rw [if_neg (by rw [h]; simp), if_neg h2, h3]
theorem keysR_lim {L : List F} {X : List AX} {R : List KY} (h : validX X = true) (h2 : allL nmKey L ≠ []) (h3 : rawsA (allL nmKey L) [] = some R) (h4 : keysA X R [] = none) : keysR L X = (11, []) := by
  unfold keysR; rw [if_neg (by rw [h]; simp), if_neg h2, h3]; simp only [h4]
theorem keysR_ok {L : List F} {X : List AX} {R K : List KY} (h : validX X = true) (h2 : allL nmKey L ≠ []) (h3 : rawsA (allL nmKey L) [] = some R) (h4 : keysA X R [] = some K) : keysR L X = (0, K) := by
  unfold keysR; rw [if_neg (by rw [h]; simp), if_neg h2, h3]; simp only [h4]
theorem keyA_none {x : AX} {X : List AX} {v : ByteArray} {V acc : KY} (h : oneK x v = none) : keyA (x :: X) (v :: V) acc = none := by
  show (match oneK x v with | none => none | some y => keyA X V (acc ++ [y])) = _; rw [h]
theorem keyA_some {x : AX} {X : List AX} {v y : ByteArray} {V acc : KY} (h : oneK x v = some y) : keyA (x :: X) (v :: V) acc = keyA X V (acc ++ [y]) := by
  show (match oneK x v with | none => none | some y => keyA X V (acc ++ [y])) = _; rw [h]
theorem keyA_len : ∀ (X : List AX) (V acc : KY), V.length ≠ X.length → keyA X V acc = none
  | [], [], acc, h => absurd rfl h
  | [], v :: V, acc, _ => rfl
  | x :: X, [], acc, _ => rfl
  | x :: X, v :: V, acc, h => by
    cases ho : oneK x v with
    | none => exact keyA_none ho
    | some y => rw [keyA_some ho]; exact keyA_len X V _ (fun e => h (by simp [e]))
theorem keysA_none {X : List AX} {r : KY} {R out : List KY} (h : keyA X r [] = none) : keysA X (r :: R) out = none := by
  show (match keyA X r [] with | none => none | some k => keysA X R (if inKy out k = true then out else out ++ [k])) = _; rw [h]
theorem keysA_old {X : List AX} {r k : KY} {R out : List KY} (h : keyA X r [] = some k) (h2 : inKy out k = true) : keysA X (r :: R) out = keysA X R out := by
  show (match keyA X r [] with | none => none | some k => keysA X R (if inKy out k = true then out else out ++ [k])) = _; rw [h]; simp only [h2, if_true]
theorem keysA_new {X : List AX} {r k : KY} {R out : List KY} (h : keyA X r [] = some k) (h2 : inKy out k = false) : keysA X (r :: R) out = keysA X R (out ++ [k]) := by
  show (match keyA X r [] with | none => none | some k => keysA X R (if inKy out k = true then out else out ++ [k])) = _; rw [h]; simp only [h2, Bool.false_eq_true, if_false]
theorem rawsA_none {m : List UInt8} {ms : List (List UInt8)} {acc : List KY} (h : valuesL m = none) : rawsA (m :: ms) acc = none := by
  show (match valuesL m with | none => none | some V => rawsA ms (acc ++ [V.map bs])) = _; rw [h]
theorem rawsA_some {m : List UInt8} {ms V : List (List UInt8)} {acc : List KY} (h : valuesL m = some V) : rawsA (m :: ms) acc = rawsA ms (acc ++ [V.map bs]) := by
  show (match valuesL m with | none => none | some V => rawsA ms (acc ++ [V.map bs])) = _; rw [h]
theorem validX_len {L : List AX} (h : validX L = true) : 1 ≤ L.length ∧ L.length ≤ 4 := by
  unfold validX at h
  simp only [Bool.and_eq_true, decide_eq_true_eq] at h
  exact h.1
/-- what the first m values say -/
def hitK (x : AX) (v : ByteArray) (m : Nat) : Option Nat := (List.range m).find? fun j => sameV x.1 v (atS x.2 j)
theorem hitK_more (x : AX) (v : ByteArray) (m : Nat) : hitK x v (m + 1) = match hitK x v m with
    | some j => some j
    | none => if sameV x.1 v (atS x.2 m) = true then some m else none := by
  unfold hitK
  rw [List.range_succ, List.find?_append]
  cases List.find? (fun j => sameV x.1 v (atS x.2 j)) (List.range m) with
  | some j => rfl
  | none =>
    simp only [Option.none_or]
    rw [List.find?_cons]
    cases sameV x.1 v (atS x.2 m) <;> rfl
theorem hitK_lt {x : AX} {v : ByteArray} {m j : Nat} (h : hitK x v m = some j) : j < m ∧ sameV x.1 v (atS x.2 j) = true :=
  ⟨List.mem_range.1 (List.mem_of_find?_eq_some h), by have := List.find?_some h; exact this⟩
theorem oneK_hit (x : AX) (v : ByteArray) : oneK x v = (hitK x v x.2.length).map (atS x.2) := by
  obtain ⟨n, V⟩ := x
  show V.find? (fun y => sameV n v y) = ((List.range V.length).find? fun j => sameV n v (atS V j)).map (atS V)
  have key : ∀ m, m ≤ V.length → (V.take m).find? (fun y => sameV n v y) = ((List.range m).find? fun j => sameV n v (atS V j)).map (atS V) := by
    intro m
    induction m with
    | zero => intro _; rfl
    | succ m ih =>
      intro hm
      have hlt : m < V.length := by omega
      rw [take_next hlt, List.find?_append, ih (by omega), List.range_succ, List.find?_append]
      cases List.find? (fun j => sameV n v (atS V j)) (List.range m) with
      | some j => rfl
      | none =>
        simp only [Option.map_none, Option.none_or]
        rw [List.find?_cons, List.find?_cons, atS_is hlt]
        cases sameV n v V[m]
        · rfl
        · show some V[m] = some (atS V m); rw [atS_is hlt]
  have := key V.length (Nat.le_refl _)
  rwa [List.take_length] at this
def smallK (L : List KY) : Prop := ∀ k ∈ L, k.length ≤ 65000 ∧ ∀ v ∈ k, v.size ≤ 65000
theorem smallK_nil : smallK [] := fun k hk => by cases hk
theorem smallK_more {L : List KY} {k : KY} (h : smallK L) (h1 : k.length ≤ 65000) (h2 : ∀ v ∈ k, v.size ≤ 65000) : smallK (L ++ [k]) := fun x hx => by
  rcases List.mem_append.1 hx with q | q
  · exact h x q
  · rw [List.mem_singleton.1 q]; exact ⟨h1, h2⟩
theorem raw_small {m : List UInt8} {V : List (List UInt8)} (h : valuesL m = some V) (hm : m.length ≤ 65000) : (V.map bs).length ≤ 65000 ∧ ∀ v ∈ V.map bs, v.size ≤ 65000 := by
  obtain ⟨h1, h2⟩ := values_size h
  refine ⟨by rw [List.length_map]; omega, fun v hv => ?_⟩
  obtain ⟨y, hy, rfl⟩ := List.mem_map.1 hv
  rw [bs_size]; have := h2 y hy; omega
theorem rawsA_small : ∀ (ms : List (List UInt8)) (acc R : List KY), rawsA ms acc = some R → smallK acc → (∀ m ∈ ms, m.length ≤ 65000) → smallK R ∧ R.length = acc.length + ms.length
  | [], acc, R, h, ha, _ => by cases h; exact ⟨ha, rfl⟩
  | m :: ms, acc, R, h, ha, hm => by
    cases hv : valuesL m with
    | none => rw [rawsA_none hv] at h; cases h
    | some V =>
      rw [rawsA_some hv] at h
      obtain ⟨h1, h2⟩ := raw_small hv (hm m (by simp))
      obtain ⟨h3, h4⟩ := rawsA_small ms _ R h (smallK_more ha h1 h2) (fun y hy => hm y (by simp [hy]))
      exact ⟨h3, by rw [h4, List.length_append]; simp only [List.length_cons, List.length_nil]; omega⟩
/-- a key has a value of each axis -/
theorem one_mem {x : AX} {v y : ByteArray} (h : oneK x v = some y) : y ∈ x.2 := List.mem_of_find?_eq_some h
theorem keyA_mem : ∀ (X : List AX) (V acc k : KY), keyA X V acc = some k → ∃ t, k = acc ++ t ∧ t.length = X.length ∧ ∀ i (h : i < X.length) (h2 : i < t.length), t[i] ∈ X[i].2
  | [], [], acc, k, h => by cases h; exact ⟨[], by simp, rfl, fun i h => absurd h (by simp)⟩
  | [], v :: V, acc, k, h => by cases h
  | x :: X, [], acc, k, h => by cases h
  | x :: X, v :: V, acc, k, h => by
    cases ho : oneK x v with
    | none => rw [keyA_none ho] at h; cases h
    | some y =>
      rw [keyA_some ho] at h
      obtain ⟨t, h1, h2, h3⟩ := keyA_mem X V _ k h
      refine ⟨y :: t, by rw [h1]; simp, by simp [h2], fun i hi hi2 => ?_⟩
      cases i with
      | zero => exact one_mem ho
      | succ i => exact h3 i (by simpa using hi) (by simpa using hi2)
theorem keyA_small {X : List AX} {V k : KY} (h : keyA X V [] = some k) (hx : X.length ≤ 65000) (hz : smallA X) : k.length ≤ 65000 ∧ ∀ v ∈ k, v.size ≤ 65000 := by
  obtain ⟨t, h1, h2, h3⟩ := keyA_mem X V [] k h
  obtain rfl : k = t := by simpa using h1
  refine ⟨by omega, fun v hv => ?_⟩
  obtain ⟨i, hi, rfl⟩ := List.mem_iff_getElem.1 hv
  have hm := h3 i (by omega) hi
  obtain ⟨j, hj, e⟩ := List.mem_iff_getElem.1 hm
  rw [← e]
  exact (hz i (by omega)).2.2 j hj
/-- what comes of the groups -/
def keysO : Option (List KY) → Int × List KY
  | none => (11, [])
  | some K => (0, K)
def hitI : Option Nat → Int
  | none => -1
  | some m => (m : Int)
theorem hit_first {x : AX} {v : ByteArray} {j n : Nat} (h0 : hitK x v j = none) (hj : j < n) (h : sameV x.1 v (atS x.2 j) = true) : hitK x v n = some j := by
  unfold hitK at h0 ⊢
  rw [List.find?_range_eq_some]
  refine ⟨h, List.mem_range.2 hj, fun i hi => ?_⟩
  have := List.find?_eq_none.1 h0 i (List.mem_range.2 hi)
  simpa using this
theorem hit_old {x : AX} {v : ByteArray} {j : Nat} (h : sameV x.1 v (atS x.2 j) = false) : hitK x v (j + 1) = hitK x v j := by
  rw [hitK_more]
  cases hh : hitK x v j with
  | none => simp only; rw [if_neg (by rw [h]; simp)]
  | some m => rfl
theorem one_none {x : AX} {v : ByteArray} (h : hitK x v x.2.length = none) : oneK x v = none := by rw [oneK_hit, h]; rfl
theorem one_some {x : AX} {v : ByteArray} {z : Nat} (h : hitK x v x.2.length = some z) : oneK x v = some (atS x.2 z) := by rw [oneK_hit, h]; rfl
end
section
open Go.RowKit Go.ChangeShapes Go.WideShapes Go.Deep
def Kss (w : World) (a : Option Addr) (L : List KY) : Prop :=
  ∀ i (h : i < L.length), ∃ g off v, a = some ⟨g, off, none⟩ ∧ w.cell? ⟨g, off + i, none⟩ = some v ∧ SsV w v L[i]
theorem Kss.below {w w' : World} {a : Option Addr} {L : List KY} (h : Kss w a L) (hb : Below w.heap.size w w') : Kss w' a L := fun i hi => by
  obtain ⟨g, off, v, e, c0, hs⟩ := h i hi
  exact ⟨g, off, v, e, (hb.cell (cell_lt c0)).trans c0, hs.below hb⟩
theorem info_strs : (Try.prog.info? 31).map (fun i => (i.zero, i.size, i.bytes)) = some (some (.slice none 0 0), 1, 24) := by kernel_rfl
def CellsK (w : World) (B : Nat) (cs : List Value) (L : List KY) : Prop :=
  cs.length = L.length ∧ (∀ u ∈ cs, u.oneCell' = true) ∧ ∀ i (h : i < L.length), ∃ u, cs[i]? = some u ∧ OwnS w B u L[i]
def OwnK (w : World) (B : Nat) (v : Value) (L : List KY) : Prop := ∃ cs, w.ownsRow B 31 1 v L.length cs ∧ CellsK w B cs L
theorem OwnK.nil (w : World) (B : Nat) : OwnK w B (.slice none 0 0) [] := ⟨[], World.ownsRow_nil _ _ _ _, rfl, by simp, fun i h => absurd h (by simp)⟩
theorem CellsK.next {w w' : World} {B : Nat} {cs : List Value} {L : List KY} (h : CellsK w B cs L) (hb : Below w.heap.size w w') : CellsK w' B cs L :=
  ⟨h.1, h.2.1, fun i hi => by obtain ⟨u, h2, h3⟩ := h.2.2 i hi; exact ⟨u, h2, own_below h3 hb⟩⟩
theorem OwnK.next {w w' : World} {B : Nat} {v : Value} {L : List KY} (h : OwnK w B v L) (hb : Below w.heap.size w w') : OwnK w' B v L := by
  obtain ⟨cs, h1, h2⟩ := h
  exact ⟨cs, own_below h1 hb, h2.next hb⟩
theorem OwnK.le {w : World} {B B' : Nat} {v : Value} {L : List KY} (h : OwnK w B v L) (hB : B' ≤ B) : OwnK w B' v L := by
  obtain ⟨cs, h1, h2⟩ := h
  exact ⟨cs, Go.Joins.ownsRow_le h1 hB, h2.1, h2.2.1, fun i hi => by obtain ⟨u, q2, q3⟩ := h2.2.2 i hi; exact ⟨u, q2, Go.Joins.ownsRow_le q3 hB⟩⟩
theorem OwnK.kss {w : World} {B : Nat} {v : Value} {L : List KY} (h : OwnK w B v L) : ∃ a cap, v = .slice a L.length cap ∧ Kss w a L ∧ L.length ≤ cap := by
  obtain ⟨cs, h, hC⟩ := h
  rcases h.2 with ⟨rfl, hn⟩ | ⟨g, cap, cur, rfl, hB, hg, hc, hm, hs, ht⟩
  · exact ⟨none, 0, by rw [hn], fun i hi => by omega, by omega⟩
  · refine ⟨_, cap, rfl, fun i hi => ?_, hc⟩
    obtain ⟨u, q1, q2⟩ := hC.2.2 i hi
    have hl := hC.1
    rw [← ht] at q1
    rw [List.getElem?_take] at q1
    rw [if_pos (by omega)] at q1
    refine ⟨g, 0, u, rfl, ?_, q2.ssv⟩
    simp only [World.cell?, hg]; simpa using q1
theorem own_grownK {w w' : World} {B n : Nat} {v u : Value} {cs : List Value} {V : List ByteArray} (hv : w.ownsRow B 31 1 v n cs) (hu : OwnS w B u V) (hg : w.grownBy w' v.ownBlock) : OwnS w' B u V := by
  refine ⟨hu.1, ?_⟩
  rcases hu.2 with q | ⟨g, cap, cur, hv2, hB, hgg, r⟩
  · exact .inl q
  · refine .inr ⟨g, cap, cur, hv2, hB, ?_, r⟩
    rw [hg.block g (heap_lt hgg) (fun e => ?_)]
    · exact hgg
    · rcases hv.2 with ⟨rfl, _⟩ | ⟨g2, cap2, cur2, rfl, _, hg2, _⟩
      · simp [Value.ownBlock] at e
      · simp [Value.ownBlock] at e
        subst e
        rw [hgg] at hg2
        simp at hg2
theorem CellsK.grown {w w' : World} {B n : Nat} {v : Value} {xs cs : List Value} {L : List KY} (h : CellsK w B cs L) (hv : w.ownsRow B 31 1 v n xs) (hg : w.grownBy w' v.ownBlock) : CellsK w' B cs L :=
  ⟨h.1, h.2.1, fun i hi => by obtain ⟨u, h2, h3⟩ := h.2.2 i hi; exact ⟨u, h2, own_grownK hv h3 hg⟩⟩
theorem CellsK.more {w : World} {B : Nat} {cs : List Value} {L : List KY} {u : Value} {V : List ByteArray} (h : CellsK w B cs L) (hu : OwnS w B u V) : CellsK w B (cs ++ [u]) (L ++ [V]) := by
  have hone : u.oneCell' = true := by obtain ⟨a, c, e, _⟩ := hu.ss; rw [e]; rfl
  refine ⟨by rw [List.length_append, List.length_append, h.1]; rfl, fun x hx => ?_, fun i hi => ?_⟩
  · rcases List.mem_append.1 hx with q | q
    · exact h.2.1 x q
    · rw [List.mem_singleton.1 q]; exact hone
  · by_cases e : i < L.length
    · obtain ⟨y, h2, h3⟩ := h.2.2 i e
      have hl := h.1
      rw [List.getElem_append_left e, List.getElem?_append_left (by omega)]
      exact ⟨y, h2, h3⟩
    · have hie : i = L.length := by rw [List.length_append] at hi; simp at hi; omega
      subst hie
      have hl := h.1
      rw [List.getElem_append_right (Nat.le_refl _), List.getElem?_append_right (by omega)]
      rw [show L.length - cs.length = 0 from by omega]
      simp only [Nat.sub_self]
      exact ⟨u, rfl, hu⟩
/-- two slices that do not lie in one block -/
def ApartK (v z : Value) : Prop := ∀ k, v.ownBlock = some k → z.ownBlock ≠ some k
theorem OwnK.lt {w : World} {B : Nat} {v : Value} {L : List KY} (h : OwnK w B v L) (k : Nat) (hk : v.ownBlock = some k) : k < w.heap.size := by
  obtain ⟨cs, h1, _⟩ := h
  exact (World.ownsRow.lt h1 k hk).2
theorem OwnK.grown {w w' : World} {B n : Nat} {v z : Value} {xs : List Value} {K : List KY} (h : OwnK w B z K) (hv : w.ownsRow B 31 1 v n xs) (hA : ApartK v z) (hg : w.grownBy w' v.ownBlock) : OwnK w' B z K := by
  obtain ⟨cs, h1, h2⟩ := h
  refine ⟨cs, ⟨h1.1, ?_⟩, h2.grown hv hg⟩
  rcases h1.2 with q | ⟨g, cap, cur, hv2, hB, hgg, r⟩
  · exact .inl q
  · refine .inr ⟨g, cap, cur, hv2, hB, ?_, r⟩
    rw [hg.block g (heap_lt hgg) (fun e => ?_)]
    · exact hgg
    · exact hA g e.symm (by rw [hv2]; rfl)
/-- append of one key that lies in a block of its own -/
theorem wpList_append_key (w : World) {ops : Array Oper} {rest : List Oper} {o : Oper} {a : Act} {Q : Exit → Act → World → Prop} (hgd : o.guard = none) (s x : Operand)
    (ho : o.op = .call { callee := .builtin .append, args := #[s, x], argTypes := #[26, 26] })
    (B : Nat) (v : Value) (L : List KY) (hs : a.eval s = v) (hown : OwnK w B v L)
    (g : Nat) (c : Nat) (hx : a.eval x = .slice (some ⟨g, 0, none⟩) 1 c) (u : Value) (V : KY) (h0 : w.cell? ⟨g, 0, none⟩ = some u) (hu : OwnS w B u V) (hl : L.length ≤ 65536) (hB : B ≤ w.heap.size)
    (h : ∀ v' w', OwnK w' B v' (L ++ [V]) → Below B w w' → OwnS w' B u V → (∀ z K, OwnK w B z K → ApartK v z → OwnK w' B z K ∧ ApartK v' z) → wpList Try.prog ops Q rest (a.put o.dst v') w') : wpList Try.prog ops Q (o :: rest) a w := by
  obtain ⟨i0, hi0, hz0, hz1, hz2⟩ := info_parts info_strs
  obtain ⟨cs, hown, hC⟩ := hown
  have hone : u.oneCell' = true := by obtain ⟨b, c, e, _⟩ := hu.ss; rw [e]; rfl
  refine wpList_append_lies (P := Try.prog) w hgd s x 26 ho B 31 i0 _ 1 24 Try.underlying26 hi0 hz0 hz1 hz2 rfl (by decide) v L.length cs hs hown ⟨g, 0, none⟩ 1 c [u] hx rfl ?_ ?_ (by omega) (by unfold maxLen; omega) (by omega) hB _ rfl ?_
  · intro j y hj
    match j, hj with
    | 0, hj => simp at hj; subst hj; simpa [Addr.add] using h0
  · intro y hy; simp at hy; subst hy; exact hone
  · intro g' cap' w' q1 q2 q3 _
    have hu' := own_grownK hown hu q2
    refine h _ w' ⟨cs ++ [u], by rw [List.length_append]; exact q1, (hC.grown hown q2).more hu'⟩ ((Below.refl _ _).grown q2 hB (fun k hk => own_block hown k hk)) hu' (fun z K hz hA => ⟨hz.grown hown hA q2, fun k hk e => ?_⟩)
    simp [Value.ownBlock] at hk
    subst hk
    rcases q3 with q3 | q3
    · exact hA _ q3 e
    · have := hz.lt _ e
      omega
end
section
open Go.RowKit
theorem sameS15_is {a b : Option Addr} {ca cb : Nat} {K L : List ByteArray} {q : Bool} {w : World} (hk : K.length ≤ 65536) (hl : L.length ≤ 65536) (hK : Ss w a K) (hL : Ss w b L) (h : Box (decide (K = L) = q)) :
    Calls Try.prog 28 #[.slice a K.length ca, .slice b L.length cb] w fun e w' => e = .returned (.bool q) ∧ Below w.heap.size w w' :=
  (SameS_any a b ca cb K L w hk hl (box hK) (box hL)).mono fun e w' ⟨h1, h2⟩ => ⟨by rw [h1, h.out], h2⟩
end
end Go.Proofs.Ytcnohcbhnldglaa.Asc
