/- Merged texts: EtaSpec AscBytes AscTok StaCut FieMem AscMem StrMem. -/
import Derived.Test.YtiogngfemelifaaDoorRows
import Derived.Test.YtiogngfemelifaaDoorZs01
import Derived.Test.YtiogngfemelifaaDoorZs02
import Derived.Below
import Derived.BigQuiet
import Derived.Deep.AppendLies
import Derived.Deep.QuietTactic
import Derived.Laws.AppendOwnNone
import Derived.Laws.OwnMore
import Derived.Lib.Bytealg
import Derived.Lib.Hide
import Derived.LoopTactic
import Derived.Outline
import Derived.OwnWalk
import Derived.WalkKit
import Derived.WalkLawsBesides
import Derived.WalkSpells
set_option linter.unusedVariables false
set_option linter.unusedSimpArgs false
set_option maxRecDepth 100000
namespace Go.Proofs.YtiogngfemelifaaDoor.Asc
section
/-- an entity tag: is it weak, and what stands between the quotes -/
abbrev ET := Bool × ByteArray
def tagI (b : Int) : Bool := decide (32 < b ∧ b ≠ 34 ∧ b ≠ 127)
def tagT (l : List UInt8) : Bool := allI tagI l
/-- what stands between the quotes -/
def tagOf : List UInt8 → Option (List UInt8)
  | [] => none
  | c :: r => if c = 34 ∧ r.getLast? = some 34 ∧ tagT r.dropLast = true then some r.dropLast else none
def parE (l : List UInt8) : Option ET :=
  if l.take 2 = [87, 47] then (tagOf (l.drop 2)).map (fun t => (true, bs t)) else (tagOf l).map (fun t => (false, bs t))
theorem tagOf_cons (c : UInt8) (r : List UInt8) : tagOf (c :: r) = if c = 34 ∧ r.getLast? = some 34 ∧ tagT r.dropLast = true then some r.dropLast else none := rfl
theorem tagOf_no1 {l : List UInt8} (h : l.head? ≠ some 34) : tagOf l = none := by
  cases l with
  | nil => rfl
  | cons c r => rw [tagOf_cons, if_neg]; rintro ⟨rfl, _⟩; exact h rfl
theorem tagOf_no2 {c : UInt8} {r : List UInt8} (h : r.getLast? ≠ some 34) : tagOf (c :: r) = none := by
  rw [tagOf_cons, if_neg]; rintro ⟨_, h2, _⟩; exact h h2
end
section
open Go.RowKit
theorem ret_bool {a b : Bool} (h : a = b) : Ending.returned (.bool a) = .returned (.bool b) := by rw [h]
theorem ret_int {k : IntKind} {a b : Int} (h : a = b) : Ending.returned (.int k a) = .returned (.int k b) := by rw [h]
theorem isBlank_any (b : Int) (w : World) :
    Calls Tryd.prog 69 #[.int .u8 b] w fun e w' => e = .returned (.bool (blankI b)) ∧ w = w' := by
  go_enter Tryd.func69, Tryd.ntmps69
  go_wp2
  all_goals (go_ret; exact ⟨ret_bool (by simp [blankI, *]), rfl⟩)
theorem isDigit_any (b : Int) (w : World) (h0 : 0 ≤ b) (h1 : b ≤ 255) :
    Calls Tryd.prog 51 #[.int .u8 b] w fun e w' => e = .returned (.bool (digitI b)) ∧ w = w' := by
  go_enter Tryd.func51, Tryd.ntmps51
  go_wp2
  all_goals (go_ret; exact ⟨ret_bool (by rw [Bool.eq_iff_iff]; simp [digitI]; omega), rfl⟩)
theorem isTextByte_any (b : Int) (w : World) (h0 : 0 ≤ b) (h1 : b ≤ 255) :
    Calls Tryd.prog 97 #[.int .u8 b] w fun e w' => e = .returned (.bool (textI b)) ∧ w = w' := by
  go_enter Tryd.func97, Tryd.ntmps97
  go_wp2
  all_goals (go_ret; exact ⟨ret_bool (by rw [Bool.eq_iff_iff]; simp [textI, *] <;> omega), rfl⟩)
theorem lowerByte_any (b : Int) (w : World) (h0 : 0 ≤ b) (h1 : b ≤ 255) :
    Calls Tryd.prog 35 #[.int .u8 b] w fun e w' => e = .returned (.int .u8 (lowI b)) ∧ w = w' := by
  go_enter Tryd.func35, Tryd.ntmps35
  go_wp2
  all_goals (go_ret; exact ⟨ret_int (by unfold lowI; split <;> omega), rfl⟩)
theorem isTokenByte_any (b : Int) (w : World) (h0 : 0 ≤ b) (h1 : b ≤ 255) :
    Calls Tryd.prog 34 #[.int .u8 b] w fun e w' => e = .returned (.bool (tokI b)) ∧ w = w' := by
  go_enter Tryd.func34, Tryd.ntmps34
  go_wp2
  all_goals (go_ret; exact ⟨ret_bool (by first | (simp [tokI, signI, *]; done) | (rw [Bool.eq_iff_iff]; simp [tokI, signI, letterI, digitI, *] <;> omega)), rfl⟩)
end
section
open Go.RowKit
theorem byte_bd (s : ByteArray) (k : Nat) (h : k < s.size) : (0 : Int) ≤ (s[k].toNat : Int) ∧ (s[k].toNat : Int) ≤ 255 := by
  have := s[k].toNat_lt; omega
theorem tokL_not {s : ByteArray} {k : Nat} (hk : k < s.size) (hp : tokI (s[k].toNat) = false) : tokL s.data.toList = false := by
  simp [tokL, all_not hk hp]
theorem textL_not {s : ByteArray} {k : Nat} (hk : k < s.size) (hp : textI (s[k].toNat) = false) : textL s.data.toList = false := all_not hk hp
theorem textL_end {s : ByteArray} {k : Nat} (h : allI textI (s.data.toList.take k) = true) (hk : s.size ≤ k) : textL s.data.toList = true := all_end h hk
theorem tokL_end {s : ByteArray} {k : Nat} (h : allI tokI (s.data.toList.take k) = true) (hk : s.size ≤ k) : tokL s.data.toList = !s.toList.isEmpty := by
  rw [ByteArray.toList_eq]; simp [tokL, all_end h hk]
theorem Token_any (s : ByteArray) (w : World) (hs : s.size ≤ maxLen) :
    Calls Tryd.prog 20 #[.string s] w fun e w' => e = .returned (.bool (tokL s.data.toList)) ∧ w = w' := by
  unfold maxLen at hs
  go_enter Tryd.func20, Tryd.ntmps20
  go_wp2
  go_loop [6] (fun i => ∃ k : Nat, k ≤ s.size ∧ i = .int .i64 k ∧ allI tokI (s.data.toList.take k) = true) (fun i => s.size - (intOf i).toNat)
  case atStart => exact ⟨0, Nat.zero_le _, rfl, rfl⟩
  case round =>
    obtain ⟨k, hk, rfl, hall⟩ := hrel
    by_cases hlt : k < s.size
    · have hb := byte_bd s k hlt
      rcases hp : tokI (s[k].toNat) with _ | _
      · go_wp2_with (go_at_call 34; refine (isTokenByte_any _ _ hb.1 hb.2).mono ?_; rintro e w' ⟨rfl, rfl⟩)
        go_ret
        exact ⟨ret_bool (tokL_not hlt hp).symm, rfl⟩
      · go_wp2_with (go_at_call 34; refine (isTokenByte_any _ _ hb.1 hb.2).mono ?_; rintro e w' ⟨rfl, rfl⟩)
        go_round
        case rel => exact ⟨k + 1, by omega, by go_num, all_more hall hlt hp⟩
        case measure => simp [intOf]; omega
    · go_wp2
      go_ret
      exact ⟨ret_bool (tokL_end hall (by omega)).symm, rfl⟩
theorem Text_any (s : ByteArray) (w : World) (hs : s.size ≤ maxLen) :
    Calls Tryd.prog 89 #[.string s] w fun e w' => e = .returned (.bool (textL s.data.toList)) ∧ w = w' := by
  unfold maxLen at hs
  go_enter Tryd.func89, Tryd.ntmps89
  go_wp2
  go_loop [6] (fun i => ∃ k : Nat, k ≤ s.size ∧ i = .int .i64 k ∧ allI textI (s.data.toList.take k) = true) (fun i => s.size - (intOf i).toNat)
  case atStart => exact ⟨0, Nat.zero_le _, rfl, rfl⟩
  case round =>
    obtain ⟨k, hk, rfl, hall⟩ := hrel
    by_cases hlt : k < s.size
    · have hb := byte_bd s k hlt
      rcases hp : textI (s[k].toNat) with _ | _
      · go_wp2_with (go_at_call 97; refine (isTextByte_any _ _ hb.1 hb.2).mono ?_; rintro e w' ⟨rfl, rfl⟩)
        go_ret
        exact ⟨ret_bool (textL_not hlt hp).symm, rfl⟩
      · go_wp2_with (go_at_call 97; refine (isTextByte_any _ _ hb.1 hb.2).mono ?_; rintro e w' ⟨rfl, rfl⟩)
        go_round
        case rel => exact ⟨k + 1, by omega, by go_num, all_more hall hlt hp⟩
        case measure => simp [intOf]; omega
    · go_wp2
      go_ret
      exact ⟨ret_bool (textL_end hall (by omega)).symm, rfl⟩
end
section
open Go.RowKit
/-- a fact that no assumption opens: a walk's search unfolds 'Hid', and runs into a size of a slice -/
def Box (p : Prop) : Prop := True → p
theorem box {p : Prop} (h : p) : Box p := fun _ => h
theorem Box.out {p : Prop} (h : Box p) : p := h trivial
theorem below_drewN (w : World) (n : Nat) : Below w.heap.size w (w.drewN n) := ⟨rfl, rfl, rfl, Nat.le_refl _, fun _ _ => rfl⟩
end
section
open Go.RowKit
theorem below_new (w : World) (o : Obj) : Below w.heap.size w (w.alloc o) := (Below.refl _ _).alloc (Nat.le_refl _) o
/-- a field lies at the block's start, and may be written -/
def Fld (g : Nat) (x y : ByteArray) (w : World) : Prop :=
  w.cell? ⟨g, 0, none⟩ = some (.string x) ∧ w.cell? ⟨g, 1, none⟩ = some (.string y) ∧ w.frozen? ⟨g, 0, none⟩ = false ∧ w.frozen? ⟨g, 1, none⟩ = false
theorem Fld.new (x y : ByteArray) (w : World) (t : TypeId) : Fld w.heap.size x y (w.alloc (.cells #[.string x, .string y] t)) := by
  exact ⟨by rw [World.cell?_alloc_mark]; rfl, by rw [World.cell?_alloc_mark]; rfl, by rw [World.frozen?_alloc_at _ _ _ _ rfl], by rw [World.frozen?_alloc_at _ _ _ _ rfl]⟩
theorem Fld.below {g B : Nat} {x y : ByteArray} {w w' : World} (h : Fld g x y w) (hb : Below B w w') (hg : g < B) : Fld g x y w' := by
  obtain ⟨h1, h2, h3, h4⟩ := h
  exact ⟨by rw [hb.cell hg]; exact h1, by rw [hb.cell hg]; exact h2, by rw [hb.frozen hg]; exact h3, by rw [hb.frozen hg]; exact h4⟩
theorem Fld.lt {g : Nat} {x y : ByteArray} {w : World} (h : Fld g x y w) : g < w.heap.size := by
  have h1 := h.1
  rcases Nat.lt_or_ge g w.heap.size with q | q
  · exact q
  · simp [World.cell?, Array.getElem?_eq_none q] at h1
theorem Fld.drew {g : Nat} {x y : ByteArray} {w : World} (h : Fld g x y w) : Fld g x y w.drew := h.below (Below.refl _ _).drew h.lt
theorem Fld.drewN {g n : Nat} {x y : ByteArray} {w : World} (h : Fld g x y w) : Fld g x y (w.drewN n) := h.below (below_drewN _ _) h.lt
theorem small_max {s : ByteArray} (h : Box (s.size ≤ 65536)) : Box (s.size ≤ maxLen) := box (by have := h.out; unfold maxLen; omega)
end
section
open Go.RowKit
def bv (c : UInt8) : Value := .int .u8 (c.toNat : Int)
/-- Block g holds the bytes l from its head on, and none of these cells is frozen. -/
def Bys (w : World) (g : Nat) (l : List UInt8) : Prop := g < w.heap.size ∧ ∀ j, j < l.length → w.cell? ⟨g, j, none⟩ = some (bv (l.getD j 0)) ∧ w.frozen? ⟨g, j, none⟩ = false
theorem getD_get (l : List UInt8) (j : Nat) (hj : j < l.length) : l.getD j 0 = l[j] := by simp [List.getD_eq_getElem?_getD, hj]
theorem Bys.lt {w : World} {g : Nat} {l : List UInt8} (h : Bys w g l) : g < w.heap.size := h.1
theorem Bys.cell {w : World} {g : Nat} {l : List UInt8} (h : Bys w g l) {j : Nat} (hj : j < l.length) : w.cell? ⟨g, j, none⟩ = some (bv (l.getD j 0)) := (h.2 j hj).1
theorem Bys.frozen {w : World} {g : Nat} {l : List UInt8} (h : Bys w g l) {j : Nat} (hj : j < l.length) : w.frozen? ⟨g, j, none⟩ = false := (h.2 j hj).2
theorem Bys.set {w : World} {g : Nat} {l : List UInt8} (h : Bys w g l) {k : Nat} (hk : k < l.length) (c : UInt8) : Bys (w.setCell ⟨g, k, none⟩ (bv c)) g (l.set k c) := by
  refine ⟨by simpa using h.1, fun j hj => ?_⟩
  rw [List.length_set] at hj
  refine ⟨?_, by rw [World.frozen?_setCell]; exact (h.2 j hj).2⟩
  by_cases e : k = j
  · subst e
    rw [World.cell?_setCell_same (h := (h.2 k hk).1)]
    simp [hk]
  · rw [World.cell?_setCell_other (h := fun h2 => e (by injection h2)), (h.2 j hj).1]
    simp [List.getD_eq_getElem?_getD, List.getElem?_set_ne e]
theorem Bys.new (w : World) (C : Array Value) (t : TypeId) (l : List UInt8) (lo hi : Nat) (hfr : l.length ≤ lo) (hC : ∀ j, j < l.length → C[j]? = some (bv (l.getD j 0))) : Bys (w.alloc (.cells C t (lo, hi))) w.heap.size l :=
  ⟨by simp, fun j hj => ⟨by rw [World.cell?_alloc_mark]; exact hC j hj, by rw [World.frozen?_alloc_mark]; simp; omega⟩⟩
theorem Bys.drew {w : World} {g : Nat} {l : List UInt8} (h : Bys w g l) : Bys w.drew g l := h
/-- 'string(b)' of such a block -/
theorem Bys.str {P : Program} {w : World} {g : Nat} {l : List UInt8} (h : Bys w g l) (src dst e : TypeId) (n cap : Nat) (hn : n = l.length) (hs : P.underlying src = some (.slice e)) (he : P.underlying e = some (.int .u8)) (hd : P.underlying dst = some .string) :
    (convert src dst (.slice (some ⟨g, 0, none⟩) n cap)).run P w = .ok (.string ⟨l.toArray⟩) w := by
  subst hn
  refine run_convert_bytes_back w src dst e ⟨g, 0, none⟩ cap l hs he hd fun j hj => ?_
  have := h.cell hj
  rw [getD_get l j hj] at this
  have ea : (⟨g, 0, none⟩ : Addr).add j = ⟨g, j, none⟩ := by unfold Addr.add; split <;> simp_all
  rw [ea]; exact this
theorem bv_low (c : UInt8) : bv (lowB c) = .int .u8 (lowI c.toNat) := by
  have h := c.toNat_lt
  have e : (lowB c).toNat = (lowI c.toNat).toNat := by
    unfold lowB; rw [UInt8.toNat_ofNat']; apply Nat.mod_eq_of_lt; unfold lowI; split <;> omega
  unfold bv; rw [e]
  congr 1
  unfold lowI; split <;> omega
/-- a list of n bytes whose first k have been made the lowered ones of l -/
def half (r l : List UInt8) (k : Nat) : List UInt8 := lowL (l.take k) ++ r.drop k
theorem lowL_length (l : List UInt8) : (lowL l).length = l.length := by simp [lowL]
theorem half_length (r l : List UInt8) (k : Nat) (hr : r.length = l.length) : (half r l k).length = l.length := by
  simp only [half, List.length_append, lowL_length, List.length_take, List.length_drop]; omega
theorem half_zero (r l : List UInt8) : half r l 0 = r := by simp [half, lowL]
theorem half_step (r l : List UInt8) (k : Nat) (hr : r.length = l.length) (hk : k < l.length) (c : UInt8) (hc : l[k] = c) : (half r l k).set k (lowB c) = half r l (k + 1) := by
  subst hc
  have e : (lowL (l.take k)).length = k := by rw [lowL_length, List.length_take]; omega
  simp only [half]
  rw [List.set_append_right _ _ (by omega), e, Nat.sub_self, List.drop_eq_getElem_cons (i := k) (by omega), List.set_cons_zero, List.take_succ_eq_append_getElem hk]
  simp only [lowL, lowB, List.map_append, List.map_cons, List.map_nil, List.append_assoc, List.cons_append, List.nil_append]
theorem half_end (r l : List UInt8) (k : Nat) (hr : r.length = l.length) (hk : l.length ≤ k) : half r l k = lowL l := by
  simp only [half]; rw [List.take_of_length_le hk, List.drop_of_length_le (by omega), List.append_nil]
end
section
open Go.RowKit
def Ss (w : World) (a : Option Addr) (L : List ByteArray) : Prop :=
  ∀ i (h : i < L.length), ∃ g off, a = some ⟨g, off, none⟩ ∧ w.cell? ⟨g, off + i, none⟩ = some (.string L[i])
theorem cell_lt {w : World} {p : Addr} {v : Value} (h : w.cell? p = some v) : p.block < w.heap.size := by
  rcases Nat.lt_or_ge p.block w.heap.size with q | q
  · exact q
  · simp [World.cell?, Array.getElem?_eq_none q] at h
theorem Ss.below {w w' : World} {a : Option Addr} {L : List ByteArray} (h : Ss w a L) (hb : Below w.heap.size w w') : Ss w' a L := fun i hi => by
  obtain ⟨g, off, e, c0⟩ := h i hi
  exact ⟨g, off, e, (hb.cell (cell_lt c0)).trans c0⟩
theorem info_str : (Tryd.prog.info? 9).map (fun i => (i.zero, i.size, i.bytes)) = some (some (.string ⟨#[]⟩), 1, 16) := by kernel_rfl
def OwnS (w : World) (B : Nat) (v : Value) (L : List ByteArray) : Prop := w.ownsRow B 9 1 v L.length (L.map Value.string)
section
variable {w w' : World} {B : Nat} {v : Value}
theorem OwnS.nil (w : World) (B : Nat) : OwnS w B (.slice none 0 0) [] := World.ownsRow_nil _ _ _ _
theorem own_block {e : TypeId} {size n : Nat} {xs : List Value} (h : w.ownsRow B e size v n xs) : ∀ k, v.ownBlock = some k → B ≤ k := by
  intro k hk
  rcases h.2 with ⟨rfl, _⟩ | ⟨g, cap, cur, rfl, hb, _⟩
  · simp [Value.ownBlock] at hk
  · simp [Value.ownBlock] at hk; omega
theorem own_below {e : TypeId} {size n : Nat} {xs : List Value} (h : w.ownsRow B e size v n xs) (hb : Below w.heap.size w w') : w'.ownsRow B e size v n xs := by
  refine ⟨h.1, ?_⟩
  rcases h.2 with q | ⟨g, cap, cur, hv, hB, hg, r⟩
  · exact .inl q
  · refine .inr ⟨g, cap, cur, hv, hB, ?_, r⟩
    have : g < w.heap.size := by
      rcases Nat.lt_or_ge g w.heap.size with q | q
      · exact q
      · rw [Array.getElem?_eq_none q] at hg; cases hg
    rw [hb.block g this]; exact hg
theorem OwnS.ss {L : List ByteArray} (h : OwnS w B v L) : ∃ a cap, v = .slice a L.length cap ∧ Ss w a L ∧ L.length ≤ cap := by
  rcases h.2 with ⟨rfl, hn⟩ | ⟨g, cap, cur, rfl, hB, hg, hc, hm, hs, ht⟩
  · exact ⟨none, 0, by rw [hn], fun i hi => by omega, by omega⟩
  · refine ⟨_, cap, rfl, fun i hi => ⟨g, 0, rfl, ?_⟩, hc⟩
    have q0 : (L.map Value.string)[i]? = some (.string L[i]) := by simp [hi]
    rw [← ht, List.getElem?_take, if_pos (by omega)] at q0
    simp only [World.cell?, hg]
    simpa using q0
end
/-- append of one string that lies in a block of its own -/
theorem wpList_append_str (w : World) {ops : Array Oper} {rest : List Oper} {o : Oper} {a : Act} {Q : Exit → Act → World → Prop} (hgd : o.guard = none) (s x : Operand)
    (ho : o.op = .call { callee := .builtin .append, args := #[s, x], argTypes := #[38, 38] })
    (B : Nat) (v : Value) (L : List ByteArray) (hs : a.eval s = v) (hown : OwnS w B v L)
    (g : Nat) (c : Nat) (hx : a.eval x = .slice (some ⟨g, 0, none⟩) 1 c) (u : ByteArray) (h0 : w.cell? ⟨g, 0, none⟩ = some (.string u)) (hl : L.length ≤ 65536) (hB : B ≤ w.heap.size)
    (h : ∀ v' w', OwnS w' B v' (L ++ [u]) → Below B w w' → wpList Tryd.prog ops Q rest (a.put o.dst v') w') : wpList Tryd.prog ops Q (o :: rest) a w := by
  obtain ⟨i0, hi0, hz0, hz1, hz2⟩ := info_parts info_str
  refine wpList_append_own (P := Tryd.prog) w hgd s x 38 ho B 9 i0 _ 1 16 Tryd.underlying38 hi0 hz0 hz1 hz2 rfl (by decide) v L.length (L.map Value.string) hs hown ⟨g, 0, none⟩ 1 c [.string u] hx rfl ?_ ?_ (by unfold maxLen; omega) (by omega) hB ?_
  · intro j u hj
    match j, hj with
    | 0, hj => simp at hj; subst hj; simpa [Addr.add] using h0
  · intro u hu; simp at hu; subst hu; rfl
  · intro v' w' q1 q2 _
    refine h v' w' (by simpa [OwnS] using q1) ((Below.refl _ _).grown q2 hB (fun k hk => own_block hown k hk))
end
end Go.Proofs.YtiogngfemelifaaDoor.Asc
