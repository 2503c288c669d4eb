/- Merged texts: HopSpec HasSpec HopSpec2 ConLay LstSame SlcHas LisPc. -/
import Derived.Test.YtgagaebgiioeoaaZs01
import Derived.Test.YtgagaebgiioeoaaZs02
import Derived.Test.YtgagaebgiioeoaaZs03
import Derived.Test.YtgagaebgiioeoaaZs04
import Derived.Lib.IndexMore
import Derived.Shelf.LaysM
import Derived.Shelf.Strings.Search3
set_option linter.unusedVariables false
set_option linter.unusedSimpArgs false
set_option maxRecDepth 100000
namespace Go.Proofs.Ytgagaebgiioeoaa.Asc
section
def conN : ByteArray := ⟨#[67, 111, 110, 110, 101, 99, 116, 105, 111, 110]⟩
def viaN : ByteArray := ⟨#[86, 105, 97]⟩
def fixN : List ByteArray := [⟨#[67, 111, 110, 110, 101, 99, 116, 105, 111, 110]⟩, ⟨#[75, 101, 101, 112, 45, 65, 108, 105, 118, 101]⟩, ⟨#[80, 114, 111, 120, 121, 45, 67, 111, 110, 110, 101, 99, 116, 105, 111, 110]⟩, ⟨#[80, 114, 111, 120, 121, 45, 65, 117, 116, 104, 101, 110, 116, 105, 99, 97, 116, 101]⟩, ⟨#[80, 114, 111, 120, 121, 45, 65, 117, 116, 104, 111, 114, 105, 122, 97, 116, 105, 111, 110]⟩, ⟨#[84, 69]⟩, ⟨#[84, 114, 97, 105, 108, 101, 114]⟩, ⟨#[84, 114, 97, 110, 115, 102, 101, 114, 45, 69, 110, 99, 111, 100, 105, 110, 103]⟩, ⟨#[67, 111, 110, 116, 101, 110, 116, 45, 76, 101, 110, 103, 116, 104]⟩, ⟨#[85, 112, 103, 114, 97, 100, 101]⟩]
def kepN : List ByteArray := [⟨#[72, 111, 115, 116]⟩, ⟨#[67, 97, 99, 104, 101, 45, 67, 111, 110, 116, 114, 111, 108]⟩, ⟨#[86, 97, 114, 121]⟩, ⟨#[86, 97, 114, 105, 97, 110, 116, 115]⟩, ⟨#[86, 97, 114, 105, 97, 110, 116, 45, 75, 101, 121]⟩, ⟨#[86, 105, 97]⟩]
/-- is a name one of a list's? -/
def amgL (n : ByteArray) (K : List ByteArray) : Bool := K.any fun k => foldL n.data.toList k.data.toList
/-- 25.1 -/
def drpF (M : List ByteArray) (p : F) : Bool := amgL p.1 fixN || (amgL p.1 M && !amgL p.1 kepN)
def strL (L : List F) : List F := L.filter fun p => !drpF (allB conN L) p
/-- 25.2 -/
def viaV (minor : Int) (name : ByteArray) : List UInt8 := [49, 46] ++ decL minor ++ 32 :: name.data.toList
def viaL (L : List F) (minor : Int) (name : ByteArray) : List F := L ++ [(viaN, bs (viaV minor name))]
theorem amg_fold {a b : ByteArray} {K : List ByteArray} (h : foldL a.data.toList b.data.toList = true) : amgL a K = amgL b K := by
  have e : lowL a.data.toList = lowL b.data.toList := of_decide_eq_true h
  unfold amgL foldL
  rw [e]
theorem amg_app (n : ByteArray) (K M : List ByteArray) : amgL n (K ++ M) = (amgL n K || amgL n M) := by unfold amgL; rw [List.any_append]
theorem amg_mem {n k : ByteArray} {K : List ByteArray} (h : foldL n.data.toList k.data.toList = true) (hk : k ∈ K) : amgL n K = true := List.any_eq_true.2 ⟨k, hk, h⟩
/-- nothing of a stripped list has a name of the ten -/
theorem str_fix {L : List F} {p : F} (h : p ∈ strL L) : amgL p.1 fixN = false := by
  have h2 := (List.mem_filter.1 h).2
  unfold drpF at h2
  cases ha : amgL p.1 fixN with
  | false => rfl
  | true => rw [ha] at h2; simp at h2
theorem str_has {L : List F} {n : ByteArray} (hn : n ∈ fixN) : (strL L).any (nmd n) = false := by
  rw [List.any_eq_false]
  intro p hp h
  have := str_fix hp
  rw [amg_mem (show foldL p.1.data.toList n.data.toList = true from h) hn] at this
  cases this
theorem str_con (L : List F) : allB conN (strL L) = [] := by
  have h : getL conN (strL L) = [] := get_none (str_has (by unfold fixN; exact List.mem_cons_self ..))
  unfold allB allL
  rw [h]; rfl
/-- HopOnce -/
theorem str_once (L : List F) : strL (strL L) = strL L := by
  have e : strL (strL L) = (strL L).filter fun p => !drpF (allB conN (strL L)) p := rfl
  rw [e, List.filter_eq_self]
  intro p hp
  unfold drpF
  rw [str_con L, str_fix hp]
  simp [amgL]
/-- the ten and the six have no name in common -/
theorem kep_fix {n : ByteArray} (h : amgL n kepN = true) : amgL n fixN = false := by
  unfold amgL at h ⊢
  obtain ⟨k, hk, hf⟩ := List.any_eq_true.1 h
  have e : lowL n.data.toList = lowL k.data.toList := of_decide_eq_true hf
  have key : ∀ k ∈ kepN, (fixN.any fun x => decide (lowL k.data.toList = lowL x.data.toList)) = false := by decide +kernel
  have := key k hk
  rw [← e] at this
  exact this
/-- HopNamed: two fields more -/
theorem two_members {L : List F} {name value : ByteArray} (hl : (allL conN L).length ≤ 50) (hs : splitL name.data.toList = [name.data.toList]) (hc : foldL name.data.toList conN.data.toList = false) :
    allB conN (L ++ [(name, value), (conN, name)]) = allB conN L ++ [name] := by
  have h1 : nmd conN (name, value) = false := hc
  have h2 : nmd conN (conN, name) = true := fold_refl _
  have g : getL conN (L ++ [(name, value), (conN, name)]) = getL conN L ++ [name] := by
    unfold getL
    rw [List.filter_append, List.map_append]
    simp [h1, h2]
  have hx : (allF (getL conN L)).length ≤ 50 := by
    unfold allL at hl
    rw [List.length_take] at hl
    omega
  have f : allF (getL conN L ++ [name]) = allF (getL conN L) ++ [name.data.toList] := by
    unfold allF
    rw [List.flatMap_append, List.flatMap_cons, List.flatMap_nil, List.append_nil, hs]
  unfold allB allL
  rw [g, f, List.take_of_length_le (by rw [List.length_append]; show _ + 1 ≤ 64; omega), List.take_of_length_le (by omega), List.map_append]
  rfl
theorem named_has {L : List F} {name value : ByteArray} (hl : (allL conN L).length ≤ 50) (hs : splitL name.data.toList = [name.data.toList]) (hc : foldL name.data.toList conN.data.toList = false) :
    (strL (L ++ [(name, value), (conN, name)])).any (nmd name) = amgL name kepN := by
  unfold strL
  rw [two_members hl hs hc]
  cases hk : amgL name kepN with
  | true =>
    rw [List.any_eq_true]
    refine ⟨(name, value), List.mem_filter.2 ⟨by simp, ?_⟩, fold_refl _⟩
    show (!drpF _ (name, value)) = true
    unfold drpF
    rw [hk, kep_fix hk]; simp
  | false =>
    rw [List.any_eq_false]
    intro p hp h
    have h2 := (List.mem_filter.1 hp).2
    have hf : foldL p.1.data.toList name.data.toList = true := h
    unfold drpF at h2
    rw [amg_app, amg_fold (K := kepN) hf, hk, show amgL p.1 [name] = true from amg_mem hf (by simp)] at h2
    simp at h2
theorem named_rest {L : List F} {name value : ByteArray} (hl : (allL conN L).length ≤ 50) (hs : splitL name.data.toList = [name.data.toList]) (hc : foldL name.data.toList conN.data.toList = false) :
    remL name (strL (L ++ [(name, value), (conN, name)])) = remL name (strL L) := by
  unfold strL remL
  rw [two_members hl hs hc, List.filter_append, List.filter_append]
  have e1 : ((L.filter fun p => !drpF (allB conN L ++ [name]) p).filter fun p => !nmd name p) = (L.filter fun p => !drpF (allB conN L) p).filter fun p => !nmd name p := by
    rw [List.filter_filter, List.filter_filter]
    apply List.filter_congr
    intro p _
    cases hn : nmd name p with
    | true => simp
    | false =>
      have : amgL p.1 [name] = false := by unfold amgL; simp only [List.any_cons, List.any_nil, Bool.or_false]; exact hn
      unfold drpF
      rw [amg_app, this, Bool.or_false]
  rw [e1]
  have e2 : ((([(name, value), (conN, name)] : List F).filter fun p => !drpF (allB conN L ++ [name]) p).filter fun p => !nmd name p) = [] := by
    rw [List.filter_filter]
    have d1 : nmd name (name, value) = true := fold_refl _
    have d2 : drpF (allB conN L ++ [name]) (conN, name) = true := by
      unfold drpF
      rw [show amgL (conN, name).1 fixN = true from amg_mem (fold_refl _) (by unfold fixN; exact List.mem_cons_self ..), Bool.true_or]
    simp [d1, d2]
  rw [e2, List.append_nil]
/-- the program's way: what is dropped, field by field -/
theorem str_more {L : List F} {M : List ByteArray} {k : Nat} (h : k < L.length) :
    ((L.take (k + 1)).filter fun p => !drpF M p) = ((L.take k).filter fun p => !drpF M p) ++ (if drpF M L[k] = true then [] else [L[k]]) := by
  rw [take_next h, List.filter_append]
  congr 1
  cases hd : drpF M L[k] <;> simp [hd]
end
section
def hasS (V : List ByteArray) (j : ByteArray) : Bool := V.any fun v => decide (v = j)
theorem hasS_iff {V : List ByteArray} {j : ByteArray} : hasS V j = true ↔ j ∈ V := by
  unfold hasS
  rw [List.any_eq_true]
  exact ⟨fun ⟨v, h, e⟩ => by have := of_decide_eq_true e; subst this; exact h, fun h => ⟨j, h, decide_eq_true rfl⟩⟩
end
section
theorem contains_cons25 (b : UInt8) (l sub : List UInt8) : Lib.contains (b :: l) sub = (sub.isPrefixOf (b :: l) || Lib.contains l sub) := by
  have hge := Lib.index_ge l sub
  unfold Lib.contains
  rw [Lib.index]
  cases hp : sub.isPrefixOf (b :: l) with
  | true => simp
  | false =>
    rw [if_neg (by simp)]
    by_cases h : Lib.index l sub = -1
    · rw [h]; simp
    · have h2 : 0 ≤ Lib.index l sub := by omega
      rw [if_neg (by simpa using h), decide_eq_true (show 0 ≤ Lib.index l sub + 1 by omega), decide_eq_true h2]; rfl
/-- behind a text without a comma -/
theorem contains_skip {x : List UInt8} (hx : (44 : UInt8) ∉ x) (l s : List UInt8) : Lib.contains (x ++ l) (44 :: s) = Lib.contains l (44 :: s) := by
  induction x with
  | nil => rfl
  | cons c x ih =>
    have hc : c ≠ 44 := fun e => hx (by rw [e]; exact List.mem_cons_self ..)
    rw [List.cons_append, contains_cons25, ih (fun h => hx (List.mem_cons_of_mem _ h))]
    have : (44 :: s).isPrefixOf (c :: (x ++ l)) = false := by
      rw [List.isPrefixOf_cons_cons, beq_eq_false_iff_ne.2 (fun e => hc e.symm)]; rfl
    rw [this, Bool.false_or]
theorem prefix_comma : ∀ {n x : List UInt8} (R : List UInt8), (44 : UInt8) ∉ n → (44 : UInt8) ∉ x → (n ++ [44]).isPrefixOf (x ++ 44 :: R) = decide (n = x)
  | [], [], R, _, _ => by simp
  | [], c :: x, R, _, hx => by
    have hc : c ≠ 44 := fun e => hx (by rw [e]; exact List.mem_cons_self ..)
    rw [List.nil_append, List.cons_append, List.isPrefixOf_cons_cons, beq_eq_false_iff_ne.2 (fun e => hc e.symm)]; rfl
  | d :: n, [], R, hn, _ => by
    have hd : d ≠ 44 := fun e => hn (by rw [e]; exact List.mem_cons_self ..)
    rw [List.nil_append, List.cons_append, List.isPrefixOf_cons_cons, beq_eq_false_iff_ne.2 hd]; rfl
  | d :: n, c :: x, R, hn, hx => by
    have ih := prefix_comma (n := n) (x := x) R (fun h => hn (List.mem_cons_of_mem _ h)) (fun h => hx (List.mem_cons_of_mem _ h))
    rw [List.cons_append, List.cons_append, List.isPrefixOf_cons_cons, ih]
    rw [Bool.eq_iff_iff]
    simp
/-- names, a comma at both ends of each -/
def commas (NS : List (List UInt8)) : List UInt8 := 44 :: NS.flatMap (· ++ [44])
theorem commas_cons (x : List UInt8) (NS : List (List UInt8)) : commas (x :: NS) = 44 :: (x ++ commas NS) := by
  unfold commas
  rw [List.flatMap_cons, List.append_assoc]; rfl
theorem commas_has {n : List UInt8} (hn : (44 : UInt8) ∉ n) : ∀ {NS : List (List UInt8)}, (∀ x ∈ NS, (44 : UInt8) ∉ x) → Lib.contains (commas NS) (44 :: n ++ [44]) = decide (n ∈ NS)
  | [], _ => by
    have e : (n ++ [44]).isPrefixOf ([] : List UInt8) = false := by cases n <;> rfl
    show Lib.contains [44] (44 :: (n ++ [44])) = _
    rw [contains_cons25, List.isPrefixOf_cons_cons, e]
    simp [Lib.contains, Lib.index]
  | x :: NS, h => by
    have ih := commas_has hn (NS := NS) (fun y hy => h y (List.mem_cons_of_mem _ hy))
    have hx := h x (List.mem_cons_self ..)
    rw [commas_cons, contains_cons25]
    rw [show (44 :: n ++ [44] : List UInt8) = 44 :: (n ++ [44]) from rfl] at ih ⊢
    rw [contains_skip hx, ih, List.isPrefixOf_cons_cons]
    have hp := prefix_comma (n := n) (x := x) (NS.flatMap (· ++ [44])) hn hx
    rw [show commas NS = 44 :: NS.flatMap (· ++ [44]) from rfl, hp]
    rw [Bool.eq_iff_iff]
    simp
theorem tok_comma {l : List UInt8} (h : tokL l = true) : (44 : UInt8) ∉ l := by
  intro hm
  unfold tokL at h
  rw [Bool.and_eq_true] at h
  have h2 := List.all_eq_true.1 h.2 44 hm
  revert h2
  decide
/-- is a name among the names of a constant? -/
theorem among_list {NS : List (List UInt8)} (h : ∀ x ∈ NS, tokL x = true) (l : List UInt8) : (tokL l && Lib.contains (commas NS) (44 :: l ++ [44])) = decide (l ∈ NS) := by
  cases ht : tokL l with
  | true =>
    rw [Bool.true_and]
    exact commas_has (tok_comma ht) (fun x hx => tok_comma (h x hx))
  | false =>
    rw [Bool.false_and]
    exact (decide_eq_false (fun hm => by rw [h l hm] at ht; cases ht)).symm
def lowN25 (K : List ByteArray) : List (List UInt8) := K.map fun k => lowL k.data.toList
theorem amg_low (n : ByteArray) (K : List ByteArray) : amgL n K = decide (lowL n.data.toList ∈ lowN25 K) := by
  rw [Bool.eq_iff_iff]
  unfold amgL lowN25 foldL
  rw [List.any_eq_true, decide_eq_true_iff, List.mem_map]
  exact ⟨fun ⟨k, h1, h2⟩ => ⟨k, h1, (of_decide_eq_true h2).symm⟩, fun ⟨k, h1, h2⟩ => ⟨k, h1, decide_eq_true h2.symm⟩⟩
theorem fix_tok : ∀ x ∈ lowN25 fixN, tokL x = true := by decide +kernel
theorem kep_tok : ∀ x ∈ lowN25 kepN, tokL x = true := by decide +kernel
def lowBs (x : ByteArray) : ByteArray := bs (lowL x.data.toList)
theorem amg_lows (n : ByteArray) (M : List ByteArray) : amgL n M = hasS (M.map lowBs) (bs (lowL n.data.toList)) := by
  rw [amg_low, Bool.eq_iff_iff, hasS_iff, decide_eq_true_iff]
  unfold lowN25
  rw [List.mem_map, List.mem_map]
  exact ⟨fun ⟨k, h1, h2⟩ => ⟨k, h1, by unfold lowBs; rw [h2]⟩, fun ⟨k, h1, h2⟩ => ⟨k, h1, by
    have := congrArg (fun b : ByteArray => b.data.toList) h2
    exact this⟩⟩
/-- as the program has it: a name in lower case, the members in lower case -/
def conB (x : ByteArray) (K : List ByteArray) : Bool := decide (x.data.toList ∈ lowN25 fixN) || (hasS K x && !decide (x.data.toList ∈ lowN25 kepN))
theorem con_drp (M : List ByteArray) (p : F) : conB (lowBs p.1) (M.map lowBs) = drpF M p := by
  unfold conB drpF
  rw [amg_low p.1 fixN, amg_low p.1 kepN, amg_lows]
  rfl
theorem lowBs_size (x : ByteArray) : (lowBs x).size = x.size := by unfold lowBs lowL; rw [bs_size, List.length_map]; simp
end
section
open Go.Shelf Go.RowKit
def laysContains_ren25 : Go.Shelf.Ren := ⟨fun | 144 => 38 | 143 => 46 | 219 => 53 | 217 => 54 | 225 => 55 | 224 => 56 | 267 => 57 | 266 => 58 | 314 => 59 | n => n, fun | 9 => 9 | 4 => 4 | 3 => 3 | 5 => 5 | 46 => 47 | 146 => 63 | 51 => 62 | n => n, fun | 1 => 0 | n => n⟩
theorem laysContains25 : Go.Proofs.LaysM.n144 Try.prog laysContains_ren25 := {
  mixed := by kernel_rfl
  f143 := Try.func46.trans (congrArg some (by kernel_rfl))
  f144 := Try.func38.trans (congrArg some (by kernel_rfl))
  f217 := Try.func54.trans (congrArg some (by kernel_rfl))
  f219 := Try.func53.trans (congrArg some (by kernel_rfl))
  f224 := Try.func56.trans (congrArg some (by kernel_rfl))
  f225 := Try.func55.trans (congrArg some (by kernel_rfl))
  f266 := Try.func58.trans (congrArg some (by kernel_rfl))
  f267 := Try.func57.trans (congrArg some (by kernel_rfl))
  f314 := Try.func59.trans (congrArg some (by kernel_rfl))
  t3 := Try.underlying3
  a3 := Try.isAgg3
  z3 := Try.sizeOf3
  v3 := Try.zeroValue3
  t4 := Try.underlying4
  a4 := Try.isAgg4
  z4 := Try.sizeOf4
  v4 := Try.zeroValue4
  t5 := Try.underlying5
  a5 := Try.isAgg5
  z5 := Try.sizeOf5
  v5 := Try.zeroValue5
  t9 := Try.underlying9
  a9 := Try.isAgg9
  z9 := Try.sizeOf9
  v9 := Try.zeroValue9
  t46 := Try.underlying47
  a46 := Try.isAgg47
  z46 := Try.sizeOf47
  v46 := Try.zeroValue47
  t51 := Try.underlying62
  a51 := Try.isAgg62
  z51 := Try.sizeOf62
  v51 := Try.zeroValue62
  t146 := Try.underlying63
  a146 := Try.isAgg63
  z146 := Try.sizeOf63
  v146 := Try.zeroValue63
  g1 := by kernel_rfl
  i3 := by kernel_rfl
  i4 := by kernel_rfl
  i5 := by kernel_rfl
  i9 := by kernel_rfl
  i46 := by kernel_rfl
  i51 := by kernel_rfl
  i146 := by kernel_rfl
  m1 := by kernel_rfl
  s1_3 := fun w h => Go.Proofs.cell_of_shapedOpen_int (zero := #[.int .i64 0]) (t := 3) h (of_decide_eq_true (by kernel_rfl)) (by kernel_rfl) rfl (by kernel_rfl) (by kernel_rfl) Try.underlying3 }
/-- the library's variable that strings.Index reads holds some number -/
def MxL (w : World) : Prop := ∃ m, w.cell? ⟨0, 0, none⟩ = some (.int .i64 m)
theorem mxl_of {w : World} (h : w.ShapedOpen Try.prog) : MxL w := laysContains25.s1_3 w h
theorem MxL.below {w w' : World} {h : Nat} (M : MxL w) (hb : Below h w w') (h0 : w.heap.size ≤ h) : MxL w' := by
  obtain ⟨m, hm⟩ := M
  exact ⟨m, (hb.cell (Nat.lt_of_lt_of_le (cell_lt hm) h0)).trans hm⟩
theorem contains25_any (s sub : ByteArray) (w : World) (hs : s.size < 4294967281) (hm : MxL w) :
    Calls Try.prog 38 #[.string s, .string sub] w fun e w' => e = .returned (.bool (Lib.contains s.data.toList sub.data.toList)) ∧ w' = w := by
  obtain ⟨m, hm⟩ := hm
  exact Any.strings_Contains { laysContains25 with } s sub m w hs hm
end
section
open Go.RowKit
theorem str_eq {a b : ByteArray} (h : (a.toList == b.toList) = true) : a = b := by
  rw [toList_data, toList_data] at h
  rw [bs_of a, bs_of b, eq_of_beq h]
theorem take_same {α : Type} {K L : List α} {k : Nat} (hK : k < K.length) (hL : k < L.length) (h : K.take k = L.take k) (e : K[k] = L[k]) : K.take (k + 1) = L.take (k + 1) := by
  rw [take_next hK, take_next hL, h, e]
theorem not_same {α : Type} {K L : List α} {k : Nat} (hK : k < K.length) (hL : k < L.length) (e : K[k] ≠ L[k]) : K ≠ L := by
  intro h; subst h; exact e rfl
theorem fld_eq {p q : F} (h1 : (p.1.toList == q.1.toList) = true) (h2 : (p.2.toList == q.2.toList) = true) : p = q := by
  obtain ⟨a, b⟩ := p
  obtain ⟨c, d⟩ := q
  rw [show a = c from str_eq h1, show b = d from str_eq h2]
set_option maxHeartbeats 800000 in
theorem SameF_any (a b : Option Addr) (ca cb : Nat) (K L : List F) (w : World) (hk : K.length ≤ 65536) (hl : L.length ≤ 65536) (hK : Box (Fs w a K)) (hL : Box (Fs w b L)) :
    Calls Try.prog 7 #[.slice a K.length ca, .slice b L.length cb] w fun e w' => e = .returned (.bool (decide (K = L))) ∧ Below w.heap.size w w' := by
  by_cases hn : K.length = L.length
  · have HN := box hn
    have hne : ((K.length : Int) != (L.length : Int)) = false := by simp [hn]
    clear hn
    go_enter Try.func7, Try.ntmps7
    go_wp2
    go_loopw [5] (fun i wr => ∃ k : Nat, k ≤ K.length ∧ i = .int .i64 k ∧ K.take k = L.take k ∧ Below w.heap.size w wr) (fun i _ => K.length - (intOf i).toNat)
    case atStart => exact ⟨0, Nat.zero_le _, rfl, rfl, Below.refl _ _⟩
    case round =>
      obtain ⟨k, hk2, rfl, hall, hbel⟩ := hrel
      have HA := box hall
      clear hall
      by_cases hlt : k < K.length
      · have hlt2 : k < L.length := by rw [← HN.out]; exact hlt
        obtain ⟨q, off, rfl, c0, c1⟩ := (hK.out.below hbel) k hlt
        obtain ⟨r, off2, rfl, d0, d1⟩ := (hL.out.below hbel) k hlt2
        rcases h1 : (K[k].1.toList == L[k].1.toList) with _ | _
        · go_wp2
          go_quiet (fail)
          go_wp2
          go_ret
          have hne2 : K[k] ≠ L[k] := fun e => by rw [e] at h1; simp at h1
          exact ⟨ret_bool (decide_eq_false (not_same hlt hlt2 hne2)).symm, hbel.trans ((below_drewN _ _).mono hbel.size)⟩
        · rcases h2 : (K[k].2.toList == L[k].2.toList) with _ | _
          · go_wp2
            go_quiet (fail)
            go_wp2
            go_ret
            have hne2 : K[k] ≠ L[k] := fun e => by rw [e] at h2; simp at h2
            exact ⟨ret_bool (decide_eq_false (not_same hlt hlt2 hne2)).symm, hbel.trans ((below_drewN _ _).mono hbel.size)⟩
          · have E := box (fld_eq h1 h2)
            go_wp2
            go_quiet (fail)
            go_wp2
            go_roundw
            case rel => exact ⟨k + 1, by omega, by go_num, take_same hlt hlt2 HA.out E.out, hbel.trans ((below_drewN _ _).mono hbel.size)⟩
            case measure => simp [intOf]; omega
      · have e : k = K.length := by omega
        have E : Box (K = L) := box (by
          have h := HA.out
          subst e
          rw [List.take_length, HN.out, List.take_length] at h
          exact h)
        clear e
        go_wp2
        go_ret
        exact ⟨ret_bool (decide_eq_true E.out).symm, hbel⟩
  · have hne : ((K.length : Int) != (L.length : Int)) = true := by simp; omega
    have HN := box hn
    clear hn
    go_enter Try.func7, Try.ntmps7
    go_wp2
    go_ret
    exact ⟨ret_bool (decide_eq_false (fun e => HN.out (by rw [e]))).symm, Below.refl _ _⟩
end
section
open Go.RowKit
theorem hasS_take {V : List ByteArray} {x : ByteArray} {k : Nat} (h : k < V.length) : hasS (V.take (k + 1)) x = (hasS (V.take k) x || decide (V[k] = x)) := by
  unfold hasS
  rw [List.take_succ_eq_append_getElem h, List.any_append]
  simp
theorem hasS_at {V : List ByteArray} {x : ByteArray} {k : Nat} (h : k < V.length) (hx : V[k] = x) : hasS V x = true := hasS_iff.2 (by rw [← hx]; exact List.getElem_mem h)
def IxPost (V : List ByteArray) (x : ByteArray) (e : Ending) : Prop := (hasS V x = false ∧ e = .returned (.int .i64 (-1))) ∨ (hasS V x = true ∧ ∃ j : Nat, e = .returned (.int .i64 j))
def IxRel (V : List ByteArray) (x : ByteArray) (W : World) (i : Value) (wr : World) : Prop := ∃ k : Nat, k ≤ V.length ∧ i = .int .i64 k ∧ hasS (V.take k) x = false ∧ wr = W
set_option maxHeartbeats 800000 in
theorem index17_any (a : Option Addr) (cap : Nat) (V : List ByteArray) (x : ByteArray) (w : World) (hl : V.length ≤ 65536) (hV : Box (Ss w a V)) :
    Calls Try.prog 39 #[.slice a V.length cap, .string x] w fun e w' => IxPost V x e ∧ w' = w := by
  go_enter Try.func39, Try.ntmps39
  go_wp2
  go_loopw [8] (fun i wr => IxRel V x w i wr) (fun i _ => V.length - (intOf i).toNat)
  case atStart => exact ⟨0, Nat.zero_le _, rfl, rfl, rfl⟩
  case round =>
    obtain ⟨k, hk, rfl, hno, rfl⟩ := hrel
    have HNO := box hno
    clear hno
    by_cases hlt : k < V.length
    · have hki : (k : Int) < (V.length : Int) := by omega
      have hk0 : (0 : Int) ≤ (k : Int) := by omega
      obtain ⟨y, hy⟩ : ∃ y, V[k] = y := ⟨_, rfl⟩
      obtain ⟨g, off, rfl, c0⟩ := hV.out k hlt
      rw [hy] at c0
      rcases hq : (x.toList == y.toList) with _ | _
      · have HN2 : Box (hasS (V.take (k + 1)) x = false) := box (by
          rw [hasS_take hlt, HNO.out, hy, Bool.false_or]
          exact decide_eq_false (fun e => by rw [e] at hq; simp at hq))
        clear hy
        go_wp2
        go_roundw
        case rel => exact ⟨k + 1, by omega, by go_num, HN2.out, rfl⟩
        case measure => simp [intOf]; omega
      · have HN2 : Box (hasS V x = true) := box (hasS_at hlt (by rw [hy]; exact (str_eq hq).symm))
        clear hy
        go_wp2
        go_ret
        exact ⟨.inr ⟨HN2.out, k, rfl⟩, rfl⟩
    · have hki : ¬ (k : Int) < (V.length : Int) := by omega
      have HN2 : Box (hasS V x = false) := box (by have := HNO.out; rw [show k = V.length from by omega, List.take_length] at this; exact this)
      go_wp2
      go_ret
      exact ⟨.inl ⟨HN2.out, rfl⟩, rfl⟩
theorem contains17_is {a : Option Addr} {cap n : Nat} {V : List ByteArray} {x : ByteArray} {q : Bool} {w : World} (hl : V.length ≤ 65536) (hV : Ss w a V) (h : Box (hasS V x = q)) (hn : Box (V.length = n)) :
    Calls Try.prog 31 #[.slice a n cap, .string x] w fun e w' => e = .returned (.bool q) ∧ w' = w := by
  have HI := index17_any a cap V x w hl (box hV)
  rw [hn.out] at HI
  have HB := box HI
  clear HI
  go_enter Try.func31, Try.ntmps31
  go_wp2_with fail
  refine HB.out.mono ?_; rintro e w1 ⟨hp, rfl⟩
  rcases hp with ⟨h1, rfl⟩ | ⟨h1, j, rfl⟩
  · have HQ : Box (q = false) := box (by rw [← h.out]; exact h1)
    go_wp2
    go_ret
    exact ⟨by rw [HQ.out]; rfl, rfl⟩
  · have HQ : Box (q = true) := box (by rw [← h.out]; exact h1)
    have hj : (0 : Int) ≤ (j : Int) := by omega
    go_wp2
    go_ret
    exact ⟨by rw [HQ.out]; simp, rfl⟩
end
section
/-- outside quoted strings (0), within one (1), behind a backslash within one (2) -/
def stepQ (s : Nat) (c : UInt8) : Nat := if s = 0 then (if c = 34 then 1 else 0) else if s = 1 then (if c = 34 then 0 else if c = 92 then 2 else 1) else 1
def pcF (sep : UInt8) : Nat → List UInt8 → List UInt8 → List UInt8 × List UInt8 × Bool
  | _, [], acc => (acc, [], false)
  | s, c :: r, acc => if s = 0 ∧ c = sep then (acc, r, true) else pcF sep (stepQ s c) r (acc ++ [c])
def pcL (sep : UInt8) (l : List UInt8) : List UInt8 × List UInt8 × Bool := pcF sep 0 l []
def moreL (sep : UInt8) (m : Bool) (l : List UInt8) : List (List UInt8) := if m then cutL sep l else []
theorem pcF_cons (sep : UInt8) (s : Nat) (c : UInt8) (r acc : List UInt8) : pcF sep s (c :: r) acc = if s = 0 ∧ c = sep then (acc, r, true) else pcF sep (stepQ s c) r (acc ++ [c]) := rfl
def qS (q : Bool) : Nat := if q = true then 1 else 0
theorem cut_pc {sep : UInt8} (hs : sep ≠ 34) : ∀ (f : Nat) (q : Bool) (l acc : List UInt8), l.length ≤ f → cutF sep f q l acc = (pcF sep (qS q) l acc).1 :: moreL sep (pcF sep (qS q) l acc).2.2 (pcF sep (qS q) l acc).2.1
  | f, q, [], acc, _ => by rw [cutF_nil]; rfl
  | 0, q, c :: r, acc, h => by simp at h
  | f + 1, q, c :: r, acc, h => by
    simp only [List.length_cons] at h
    rw [cutF_cons, pcF_cons]
    by_cases h1 : q = true ∧ c = 92
    · obtain ⟨rfl, rfl⟩ := h1
      rw [if_pos ⟨rfl, rfl⟩, if_neg (fun h => absurd h.1 (by decide))]
      match r, h with
      | [], h => rfl
      | d :: r2, h =>
        simp only [List.length_cons] at h
        simp only
        rw [cut_pc hs f true r2 _ (by omega), pcF_cons, if_neg (fun h => absurd h.1 (by decide)), List.append_assoc]
        rfl
    · rw [if_neg h1]
      by_cases h2 : c = 34
      · subst h2
        rw [if_pos rfl, if_neg (fun h => hs h.2.symm), cut_pc hs f (!q) r _ (by omega)]
        cases q <;> rfl
      · rw [if_neg h2]
        by_cases h3 : c = sep ∧ q = false
        · obtain ⟨rfl, rfl⟩ := h3
          rw [if_pos ⟨rfl, rfl⟩, if_pos ⟨rfl, rfl⟩]
          show acc :: cutF c f false r [] = acc :: cutF c r.length false r []
          rw [cutF_fuel f r.length false r [] (by omega) (Nat.le_refl _)]
        · rw [if_neg h3]
          have e : stepQ (qS q) c = qS q := by
            unfold stepQ
            cases q
            · show (if (0 : Nat) = 0 then _ else _) = _
              rw [if_pos rfl, if_neg h2]; rfl
            · show (if (1 : Nat) = 0 then _ else if (1 : Nat) = 1 then _ else _) = _
              rw [if_neg (by decide), if_pos rfl, if_neg h2, if_neg (fun h => h1 ⟨rfl, h⟩)]; rfl
          have n : ¬ (qS q = 0 ∧ c = sep) := by
            rintro ⟨h5, h6⟩
            cases q
            · exact h3 ⟨h6, rfl⟩
            · exact absurd h5 (by decide)
          rw [if_neg n, e, cut_pc hs f q r _ (by omega)]
theorem cutL_pc {sep : UInt8} (hs : sep ≠ 34) (l : List UInt8) : cutL sep l = (pcL sep l).1 :: moreL sep (pcL sep l).2.2 (pcL sep l).2.1 := cut_pc hs l.length false l [] (Nat.le_refl _)
/-- the steps, by places -/
def pcAt (sep : UInt8) (s : Nat) (l : List UInt8) (k : Nat) : List UInt8 × List UInt8 × Bool := pcF sep s (l.drop k) (l.take k)
theorem pc_start (sep : UInt8) (l : List UInt8) : pcL sep l = pcAt sep 0 l 0 := by unfold pcL pcAt; simp
theorem pc_end {sep : UInt8} {s : Nat} {l : List UInt8} {k : Nat} (h : l.length ≤ k) : pcAt sep s l k = (l, [], false) := by
  unfold pcAt; rw [List.drop_of_length_le h, List.take_of_length_le h]; rfl
theorem pc_sep {sep : UInt8} {l : List UInt8} {k : Nat} (hk : k < l.length) (h : l[k] = sep) : pcAt sep 0 l k = (l.take k, l.drop (k + 1), true) := by
  unfold pcAt; rw [List.drop_eq_getElem_cons hk, pcF_cons, if_pos ⟨rfl, h⟩]
theorem pc_step {sep : UInt8} {s : Nat} {l : List UInt8} {k : Nat} (hk : k < l.length) (h : ¬ (s = 0 ∧ l[k] = sep)) : pcAt sep s l k = pcAt sep (stepQ s l[k]) l (k + 1) := by
  unfold pcAt
  rw [List.drop_eq_getElem_cons hk, pcF_cons, if_neg h, List.take_add_one, List.getElem?_eq_getElem hk]; rfl
theorem stepQ_le (s : Nat) (c : UInt8) : stepQ s c ≤ 2 := by unfold stepQ; repeat' split <;> try omega
/-- sizes -/
theorem pcF_size (sep : UInt8) : ∀ (l : List UInt8) (s : Nat) (acc : List UInt8), (pcF sep s l acc).1.length + (pcF sep s l acc).2.1.length ≤ acc.length + l.length ∧ ((pcF sep s l acc).2.2 = true → (pcF sep s l acc).2.1.length < l.length)
  | [], s, acc => ⟨by simp [pcF], fun h => by simp [pcF] at h⟩
  | c :: r, s, acc => by
    rw [pcF_cons]
    split
    · refine ⟨by simp only [List.length_cons]; omega, fun _ => by simp⟩
    · obtain ⟨h1, h2⟩ := pcF_size sep r (stepQ s c) (acc ++ [c])
      simp only [List.length_append, List.length_cons, List.length_nil] at h1 ⊢
      exact ⟨by omega, fun h => by have := h2 h; omega⟩
/-- the members of a value behind others, as long as there is room -/
def addL (A : List (List UInt8)) (ps : List (List UInt8)) : List (List UInt8) := (A ++ memL ps).take 64
theorem addL_nil {A : List (List UInt8)} (h : A.length ≤ 64) : addL A [] = A := by unfold addL memL; simp [List.take_of_length_le h]
theorem addL_full {A ps : List (List UInt8)} (h : A.length = 64) : addL A ps = A := by
  unfold addL; rw [List.take_append_of_le_length (by omega), List.take_of_length_le (by omega)]
theorem memL_cons (p : List UInt8) (ps : List (List UInt8)) : memL (p :: ps) = (if trimL p = [] then [] else [trimL p]) ++ memL ps := by
  rw [show p :: ps = [p] ++ ps from rfl, memL_append]
  congr 1
  split
  · rename_i e; unfold memL; simp [e]
  · rename_i e; exact memL_one e
theorem addL_blank {A ps : List (List UInt8)} {p : List UInt8} (h : trimL p = []) : addL A (p :: ps) = addL A ps := by unfold addL; rw [memL_cons, if_pos h, List.nil_append]
theorem addL_more {A ps : List (List UInt8)} {p : List UInt8} (h : trimL p ≠ []) : addL A (p :: ps) = addL (A ++ [trimL p]) ps := by unfold addL; rw [memL_cons, if_neg h, List.append_assoc]
theorem addL_all {vs : List ByteArray} {k : Nat} (h : k < vs.length) : (allF (vs.take (k + 1))).take 64 = addL ((allF (vs.take k)).take 64) (cutL 44 vs[k].data.toList) := by
  rw [allF_more h]
  unfold addL splitL
  generalize (allF (vs.take k)).take 64 = X
  rw [List.take_append, List.take_append, List.take_take]
  congr 2
  omega
end
end Go.Proofs.Ytgagaebgiioeoaa.Asc
