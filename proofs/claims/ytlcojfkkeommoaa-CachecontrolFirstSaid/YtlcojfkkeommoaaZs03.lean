/- Merged texts: AscTok AscMem StaCut StrMem FieMem Only CtlMem. -/
import Derived.Test.YtlcojfkkeommoaaZs01
import Derived.Test.YtlcojfkkeommoaaZs02
import Derived.Below
import Derived.BigQuiet
import Derived.Deep.AppendLies
import Derived.Deep.QuietTactic
import Derived.Laws.AppendOwnNone
import Derived.Laws.OwnMore
import Derived.Laws.ResultCell
import Derived.Lib.Bytealg
import Derived.Lib.Hide
import Derived.LoopTactic
import Derived.OwnWalk
set_option linter.unusedVariables false
set_option linter.unusedSimpArgs false
set_option maxRecDepth 100000
namespace Go.Proofs.Ytlcojfkkeommoaa.Asc
section
open Go.RowKit
theorem byte_bd (s : ByteArray) (k : Nat) (h : k < s.size) : (0 : Int) ≤ (s[k].toNat : Int) ∧ (s[k].toNat : Int) ≤ 255 := by
  have := s[k].toNat_lt; omega
theorem tokL_not {s : ByteArray} {k : Nat} (hk : k < s.size) (hp : tokI (s[k].toNat) = false) : tokL s.data.toList = false := by
  simp [tokL, all_not hk hp]
theorem textL_not {s : ByteArray} {k : Nat} (hk : k < s.size) (hp : textI (s[k].toNat) = false) : textL s.data.toList = false := all_not hk hp
theorem textL_end {s : ByteArray} {k : Nat} (h : allI textI (s.data.toList.take k) = true) (hk : s.size ≤ k) : textL s.data.toList = true := all_end h hk
theorem tokL_end {s : ByteArray} {k : Nat} (h : allI tokI (s.data.toList.take k) = true) (hk : s.size ≤ k) : tokL s.data.toList = !s.toList.isEmpty := by
  rw [ByteArray.toList_eq]; simp [tokL, all_end h hk]
theorem Token_any (s : ByteArray) (w : World) (hs : s.size ≤ maxLen) :
    Calls Try.prog 48 #[.string s] w fun e w' => e = .returned (.bool (tokL s.data.toList)) ∧ w = w' := by
  unfold maxLen at hs
  go_enter Try.func48, Try.ntmps48
  go_wp2
  go_loop [6] (fun i => ∃ k : Nat, k ≤ s.size ∧ i = .int .i64 k ∧ allI tokI (s.data.toList.take k) = true) (fun i => s.size - (intOf i).toNat)
  case atStart => exact ⟨0, Nat.zero_le _, rfl, rfl⟩
  case round =>
    obtain ⟨k, hk, rfl, hall⟩ := hrel
    by_cases hlt : k < s.size
    · have hb := byte_bd s k hlt
      rcases hp : tokI (s[k].toNat) with _ | _
      · go_wp2_with (go_at_call 59; refine (isTokenByte_any _ _ hb.1 hb.2).mono ?_; rintro e w' ⟨rfl, rfl⟩)
        go_ret
        exact ⟨ret_bool (tokL_not hlt hp).symm, rfl⟩
      · go_wp2_with (go_at_call 59; refine (isTokenByte_any _ _ hb.1 hb.2).mono ?_; rintro e w' ⟨rfl, rfl⟩)
        go_round
        case rel => exact ⟨k + 1, by omega, by go_num, all_more hall hlt hp⟩
        case measure => simp [intOf]; omega
    · go_wp2
      go_ret
      exact ⟨ret_bool (tokL_end hall (by omega)).symm, rfl⟩
theorem rToken_any (s : ByteArray) (w : World) (hs : s.size ≤ maxLen) :
    Calls Try.prog 14 #[.string s] w fun e w' => e = .returned (.bool (tokL s.data.toList)) ∧ w = w' := by
  unfold maxLen at hs
  go_enter Try.func14, Try.ntmps14
  go_wp2
  go_loop [3] (fun i => ∃ k : Nat, k ≤ s.size ∧ i = .int .i64 k ∧ allI tokI (s.data.toList.take k) = true) (fun i => s.size - (intOf i).toNat)
  case atStart => exact ⟨0, Nat.zero_le _, rfl, rfl⟩
  case round =>
    obtain ⟨k, hk, rfl, hall⟩ := hrel
    by_cases hlt : k < s.size
    · have hb := byte_bd s k hlt
      rcases hp : tokI (s[k].toNat) with _ | _
      · go_wp2_with (go_at_call 16; refine (rTokenByte_any _ _ hb.1 hb.2).mono ?_; rintro e w' ⟨rfl, rfl⟩)
        go_ret
        exact ⟨ret_bool (tokL_not hlt hp).symm, rfl⟩
      · go_wp2_with (go_at_call 16; refine (rTokenByte_any _ _ hb.1 hb.2).mono ?_; rintro e w' ⟨rfl, rfl⟩)
        go_round
        case rel => exact ⟨k + 1, by omega, by go_num, all_more hall hlt hp⟩
        case measure => simp [intOf]; omega
    · go_wp2
      go_ret
      exact ⟨ret_bool (tokL_end hall (by omega)).symm, rfl⟩
theorem Text_any (s : ByteArray) (w : World) (hs : s.size ≤ maxLen) :
    Calls Try.prog 66 #[.string s] w fun e w' => e = .returned (.bool (textL s.data.toList)) ∧ w = w' := by
  unfold maxLen at hs
  go_enter Try.func66, Try.ntmps66
  go_wp2
  go_loop [6] (fun i => ∃ k : Nat, k ≤ s.size ∧ i = .int .i64 k ∧ allI textI (s.data.toList.take k) = true) (fun i => s.size - (intOf i).toNat)
  case atStart => exact ⟨0, Nat.zero_le _, rfl, rfl⟩
  case round =>
    obtain ⟨k, hk, rfl, hall⟩ := hrel
    by_cases hlt : k < s.size
    · have hb := byte_bd s k hlt
      rcases hp : textI (s[k].toNat) with _ | _
      · go_wp2_with (go_at_call 69; refine (isTextByte_any _ _ hb.1 hb.2).mono ?_; rintro e w' ⟨rfl, rfl⟩)
        go_ret
        exact ⟨ret_bool (textL_not hlt hp).symm, rfl⟩
      · go_wp2_with (go_at_call 69; refine (isTextByte_any _ _ hb.1 hb.2).mono ?_; rintro e w' ⟨rfl, rfl⟩)
        go_round
        case rel => exact ⟨k + 1, by omega, by go_num, all_more hall hlt hp⟩
        case measure => simp [intOf]; omega
    · go_wp2
      go_ret
      exact ⟨ret_bool (textL_end hall (by omega)).symm, rfl⟩
theorem rText_any (s : ByteArray) (w : World) (hs : s.size ≤ maxLen) :
    Calls Try.prog 19 #[.string s] w fun e w' => e = .returned (.bool (textL s.data.toList)) ∧ w = w' := by
  unfold maxLen at hs
  go_enter Try.func19, Try.ntmps19
  go_wp2
  go_loop [3] (fun i => ∃ k : Nat, k ≤ s.size ∧ i = .int .i64 k ∧ allI textI (s.data.toList.take k) = true) (fun i => s.size - (intOf i).toNat)
  case atStart => exact ⟨0, Nat.zero_le _, rfl, rfl⟩
  case round =>
    obtain ⟨k, hk, rfl, hall⟩ := hrel
    by_cases hlt : k < s.size
    · have hb := byte_bd s k hlt
      rcases hp : textI (s[k].toNat) with _ | _
      · go_wp2_with (go_at_call 32; refine (textByte_any _ _ hb.1 hb.2).mono ?_; rintro e w' ⟨rfl, rfl⟩)
        go_ret
        exact ⟨ret_bool (textL_not hlt hp).symm, rfl⟩
      · go_wp2_with (go_at_call 32; refine (textByte_any _ _ hb.1 hb.2).mono ?_; rintro e w' ⟨rfl, rfl⟩)
        go_round
        case rel => exact ⟨k + 1, by omega, by go_num, all_more hall hlt hp⟩
        case measure => simp [intOf]; omega
    · go_wp2
      go_ret
      exact ⟨ret_bool (textL_end hall (by omega)).symm, rfl⟩
end
section
open Go.RowKit
def bv (c : UInt8) : Value := .int .u8 (c.toNat : Int)
/-- Block g holds the bytes l from its head on, and none of these cells is frozen. -/
def Bys (w : World) (g : Nat) (l : List UInt8) : Prop := g < w.heap.size ∧ ∀ j, j < l.length → w.cell? ⟨g, j, none⟩ = some (bv (l.getD j 0)) ∧ w.frozen? ⟨g, j, none⟩ = false
theorem getD_get (l : List UInt8) (j : Nat) (hj : j < l.length) : l.getD j 0 = l[j] := by simp [List.getD_eq_getElem?_getD, hj]
theorem bv_oneCell (l : List UInt8) : ∀ u ∈ l.map bv, u.oneCell' = true := by
  intro u hu; obtain ⟨c, _, rfl⟩ := List.mem_map.mp hu; rfl
theorem Bys.lt {w : World} {g : Nat} {l : List UInt8} (h : Bys w g l) : g < w.heap.size := h.1
theorem Bys.cell {w : World} {g : Nat} {l : List UInt8} (h : Bys w g l) {j : Nat} (hj : j < l.length) : w.cell? ⟨g, j, none⟩ = some (bv (l.getD j 0)) := (h.2 j hj).1
theorem Bys.frozen {w : World} {g : Nat} {l : List UInt8} (h : Bys w g l) {j : Nat} (hj : j < l.length) : w.frozen? ⟨g, j, none⟩ = false := (h.2 j hj).2
theorem Bys.set {w : World} {g : Nat} {l : List UInt8} (h : Bys w g l) {k : Nat} (hk : k < l.length) (c : UInt8) : Bys (w.setCell ⟨g, k, none⟩ (bv c)) g (l.set k c) := by
  refine ⟨by simpa using h.1, fun j hj => ?_⟩
  rw [List.length_set] at hj
  refine ⟨?_, by rw [World.frozen?_setCell]; exact (h.2 j hj).2⟩
  by_cases e : k = j
  · subst e
    rw [World.cell?_setCell_same (h := (h.2 k hk).1)]
    simp [hk]
  · rw [World.cell?_setCell_other (h := fun h2 => e (by injection h2)), (h.2 j hj).1]
    simp [List.getD_eq_getElem?_getD, List.getElem?_set_ne e]
theorem Bys.new (w : World) (C : Array Value) (t : TypeId) (l : List UInt8) (lo hi : Nat) (hfr : l.length ≤ lo) (hC : ∀ j, j < l.length → C[j]? = some (bv (l.getD j 0))) : Bys (w.alloc (.cells C t (lo, hi))) w.heap.size l :=
  ⟨by simp, fun j hj => ⟨by rw [World.cell?_alloc_mark]; exact hC j hj, by rw [World.frozen?_alloc_mark]; simp; omega⟩⟩
theorem Bys.drew {w : World} {g : Nat} {l : List UInt8} (h : Bys w g l) : Bys w.drew g l := h
/-- 'string(b)' of such a block -/
theorem Bys.str {P : Program} {w : World} {g : Nat} {l : List UInt8} (h : Bys w g l) (src dst e : TypeId) (n cap : Nat) (hn : n = l.length) (hs : P.underlying src = some (.slice e)) (he : P.underlying e = some (.int .u8)) (hd : P.underlying dst = some .string) :
    (convert src dst (.slice (some ⟨g, 0, none⟩) n cap)).run P w = .ok (.string ⟨l.toArray⟩) w := by
  subst hn
  refine run_convert_bytes_back w src dst e ⟨g, 0, none⟩ cap l hs he hd fun j hj => ?_
  have := h.cell hj
  rw [getD_get l j hj] at this
  have ea : (⟨g, 0, none⟩ : Addr).add j = ⟨g, j, none⟩ := by unfold Addr.add; split <;> simp_all
  rw [ea]; exact this
theorem bv_low (c : UInt8) : bv (lowB c) = .int .u8 (lowI c.toNat) := by
  have h := c.toNat_lt
  have e : (lowB c).toNat = (lowI c.toNat).toNat := by
    unfold lowB; rw [UInt8.toNat_ofNat']; apply Nat.mod_eq_of_lt; unfold lowI; split <;> omega
  unfold bv; rw [e]
  congr 1
  unfold lowI; split <;> omega
theorem lowB_same {c : UInt8} (h : lowI c.toNat = c.toNat) : lowB c = c := by
  unfold lowB; rw [h]; simp
/-- a list of n bytes whose first k have been made the lowered ones of l -/
def half (r l : List UInt8) (k : Nat) : List UInt8 := lowL (l.take k) ++ r.drop k
theorem lowL_length (l : List UInt8) : (lowL l).length = l.length := by simp [lowL]
theorem half_length (r l : List UInt8) (k : Nat) (hr : r.length = l.length) : (half r l k).length = l.length := by
  simp only [half, List.length_append, lowL_length, List.length_take, List.length_drop]; omega
theorem half_zero (r l : List UInt8) : half r l 0 = r := by simp [half, lowL]
theorem half_get (r l : List UInt8) (k : Nat) (hr : r.length = l.length) (hk : k < l.length) : (half r l k).getD k 0 = r.getD k 0 := by
  have e : (lowL (l.take k)).length = k := by rw [lowL_length, List.length_take]; omega
  simp only [half, List.getD_eq_getElem?_getD]
  rw [List.getElem?_append_right (by omega), e, Nat.sub_self, List.getElem?_drop]; rfl
theorem half_step (r l : List UInt8) (k : Nat) (hr : r.length = l.length) (hk : k < l.length) (c : UInt8) (hc : l[k] = c) : (half r l k).set k (lowB c) = half r l (k + 1) := by
  subst hc
  have e : (lowL (l.take k)).length = k := by rw [lowL_length, List.length_take]; omega
  simp only [half]
  rw [List.set_append_right _ _ (by omega), e, Nat.sub_self, List.drop_eq_getElem_cons (i := k) (by omega), List.set_cons_zero, List.take_succ_eq_append_getElem hk]
  simp only [lowL, lowB, List.map_append, List.map_cons, List.map_nil, List.append_assoc, List.cons_append, List.nil_append]
theorem half_end (r l : List UInt8) (k : Nat) (hr : r.length = l.length) (hk : l.length ≤ k) : half r l k = lowL l := by
  simp only [half]; rw [List.take_of_length_le hk, List.drop_of_length_le (by omega), List.append_nil]
end
section
open Go.RowKit
/-- a fact that no assumption opens: a walk's search unfolds 'Hid', and runs into a size of a slice -/
def Box (p : Prop) : Prop := True → p
theorem box {p : Prop} (h : p) : Box p := fun _ => h
theorem Box.out {p : Prop} (h : Box p) : p := h trivial
theorem below_drewN (w : World) (n : Nat) : Below w.heap.size w (w.drewN n) := ⟨rfl, rfl, rfl, Nat.le_refl _, fun _ _ => rfl⟩
end
section
open Go.RowKit
def Ss (w : World) (a : Option Addr) (L : List ByteArray) : Prop :=
  ∀ i (h : i < L.length), ∃ g off, a = some ⟨g, off, none⟩ ∧ w.cell? ⟨g, off + i, none⟩ = some (.string L[i])
theorem cell_lt {w : World} {p : Addr} {v : Value} (h : w.cell? p = some v) : p.block < w.heap.size := by
  rcases Nat.lt_or_ge p.block w.heap.size with q | q
  · exact q
  · simp [World.cell?, Array.getElem?_eq_none q] at h
theorem Ss.below {w w' : World} {a : Option Addr} {L : List ByteArray} (h : Ss w a L) (hb : Below w.heap.size w w') : Ss w' a L := fun i hi => by
  obtain ⟨g, off, e, c0⟩ := h i hi
  exact ⟨g, off, e, (hb.cell (cell_lt c0)).trans c0⟩
theorem info_str : (Try.prog.info? 9).map (fun i => (i.zero, i.size, i.bytes)) = some (some (.string ⟨#[]⟩), 1, 16) := by kernel_rfl
def OwnS (w : World) (B : Nat) (v : Value) (L : List ByteArray) : Prop := w.ownsRow B 9 1 v L.length (L.map Value.string)
section
variable {w w' : World} {B : Nat} {v : Value}
theorem OwnS.nil (w : World) (B : Nat) : OwnS w B (.slice none 0 0) [] := World.ownsRow_nil _ _ _ _
theorem own_block {e : TypeId} {size n : Nat} {xs : List Value} (h : w.ownsRow B e size v n xs) : ∀ k, v.ownBlock = some k → B ≤ k := by
  intro k hk
  rcases h.2 with ⟨rfl, _⟩ | ⟨g, cap, cur, rfl, hb, _⟩
  · simp [Value.ownBlock] at hk
  · simp [Value.ownBlock] at hk; omega
theorem own_below {e : TypeId} {size n : Nat} {xs : List Value} (h : w.ownsRow B e size v n xs) (hb : Below w.heap.size w w') : w'.ownsRow B e size v n xs := by
  refine ⟨h.1, ?_⟩
  rcases h.2 with q | ⟨g, cap, cur, hv, hB, hg, r⟩
  · exact .inl q
  · refine .inr ⟨g, cap, cur, hv, hB, ?_, r⟩
    have : g < w.heap.size := by
      rcases Nat.lt_or_ge g w.heap.size with q | q
      · exact q
      · rw [Array.getElem?_eq_none q] at hg; cases hg
    rw [hb.block g this]; exact hg
theorem OwnS.ss {L : List ByteArray} (h : OwnS w B v L) : ∃ a cap, v = .slice a L.length cap ∧ Ss w a L ∧ L.length ≤ cap := by
  rcases h.2 with ⟨rfl, hn⟩ | ⟨g, cap, cur, rfl, hB, hg, hc, hm, hs, ht⟩
  · exact ⟨none, 0, by rw [hn], fun i hi => by omega, by omega⟩
  · refine ⟨_, cap, rfl, fun i hi => ⟨g, 0, rfl, ?_⟩, hc⟩
    have q0 : (L.map Value.string)[i]? = some (.string L[i]) := by simp [hi]
    rw [← ht, List.getElem?_take, if_pos (by omega)] at q0
    simp only [World.cell?, hg]
    simpa using q0
end
/-- append of one string that lies in a block of its own -/
theorem wpList_append_str (w : World) {ops : Array Oper} {rest : List Oper} {o : Oper} {a : Act} {Q : Exit → Act → World → Prop} (hgd : o.guard = none) (s x : Operand)
    (ho : o.op = .call { callee := .builtin .append, args := #[s, x], argTypes := #[29, 29] })
    (B : Nat) (v : Value) (L : List ByteArray) (hs : a.eval s = v) (hown : OwnS w B v L)
    (g : Nat) (c : Nat) (hx : a.eval x = .slice (some ⟨g, 0, none⟩) 1 c) (u : ByteArray) (h0 : w.cell? ⟨g, 0, none⟩ = some (.string u)) (hl : L.length ≤ 65536) (hB : B ≤ w.heap.size)
    (h : ∀ v' w', OwnS w' B v' (L ++ [u]) → Below B w w' → wpList Try.prog ops Q rest (a.put o.dst v') w') : wpList Try.prog ops Q (o :: rest) a w := by
  obtain ⟨i0, hi0, hz0, hz1, hz2⟩ := info_parts info_str
  refine wpList_append_own (P := Try.prog) w hgd s x 29 ho B 9 i0 _ 1 16 Try.underlying29 hi0 hz0 hz1 hz2 rfl (by decide) v L.length (L.map Value.string) hs hown ⟨g, 0, none⟩ 1 c [.string u] hx rfl ?_ ?_ (by unfold maxLen; omega) (by omega) hB ?_
  · intro j u hj
    match j, hj with
    | 0, hj => simp at hj; subst hj; simpa [Addr.add] using h0
  · intro u hu; simp at hu; subst hu; rfl
  · intro v' w' q1 q2 _
    refine h v' w' (by simpa [OwnS] using q1) ((Below.refl _ _).grown q2 hB (fun k hk => own_block hown k hk))
end
section
open Go.RowKit
theorem below_new (w : World) (o : Obj) : Below w.heap.size w (w.alloc o) := (Below.refl _ _).alloc (Nat.le_refl _) o
/-- a field lies at the block's start, and may be written -/
def Fld (g : Nat) (x y : ByteArray) (w : World) : Prop :=
  w.cell? ⟨g, 0, none⟩ = some (.string x) ∧ w.cell? ⟨g, 1, none⟩ = some (.string y) ∧ w.frozen? ⟨g, 0, none⟩ = false ∧ w.frozen? ⟨g, 1, none⟩ = false
theorem Fld.new (x y : ByteArray) (w : World) (t : TypeId) : Fld w.heap.size x y (w.alloc (.cells #[.string x, .string y] t)) := by
  exact ⟨by rw [World.cell?_alloc_mark]; rfl, by rw [World.cell?_alloc_mark]; rfl, by rw [World.frozen?_alloc_at _ _ _ _ rfl], by rw [World.frozen?_alloc_at _ _ _ _ rfl]⟩
theorem Fld.below {g B : Nat} {x y : ByteArray} {w w' : World} (h : Fld g x y w) (hb : Below B w w') (hg : g < B) : Fld g x y w' := by
  obtain ⟨h1, h2, h3, h4⟩ := h
  exact ⟨by rw [hb.cell hg]; exact h1, by rw [hb.cell hg]; exact h2, by rw [hb.frozen hg]; exact h3, by rw [hb.frozen hg]; exact h4⟩
theorem Fld.lt {g : Nat} {x y : ByteArray} {w : World} (h : Fld g x y w) : g < w.heap.size := by
  have h1 := h.1
  rcases Nat.lt_or_ge g w.heap.size with q | q
  · exact q
  · simp [World.cell?, Array.getElem?_eq_none q] at h1
theorem Fld.more {g : Nat} {x y : ByteArray} {w : World} (h : Fld g x y w) (o : Obj) : Fld g x y (w.alloc o) := h.below (below_new w o) h.lt
theorem Fld.drew {g : Nat} {x y : ByteArray} {w : World} (h : Fld g x y w) : Fld g x y w.drew := h.below (Below.refl _ _).drew h.lt
theorem Fld.drewN {g n : Nat} {x y : ByteArray} {w : World} (h : Fld g x y w) : Fld g x y (w.drewN n) := h.below (below_drewN _ _) h.lt
theorem small_max {s : ByteArray} (h : Box (s.size ≤ 65536)) : Box (s.size ≤ maxLen) := box (by have := h.out; unfold maxLen; omega)
end
section
open Go.RowKit
/-- block k holds the string x, and may be written -/
def StrAt (k : Nat) (x : ByteArray) (w : World) : Prop := w.cell? ⟨k, 0, none⟩ = some (.string x) ∧ w.frozen? ⟨k, 0, none⟩ = false
theorem StrAt.new (x : ByteArray) (w : World) (t : TypeId) : StrAt w.heap.size x (w.alloc (.cells #[.string x] t)) :=
  ⟨by rw [World.cell?_alloc_mark]; rfl, by rw [World.frozen?_alloc_at _ _ _ _ rfl]⟩
theorem StrAt.lt {k : Nat} {x : ByteArray} {w : World} (h : StrAt k x w) : k < w.heap.size := cell_lt (p := ⟨k, 0, none⟩) h.1
theorem StrAt.below {k B : Nat} {x : ByteArray} {w w' : World} (h : StrAt k x w) (hb : Below B w w') (hk : k < B) : StrAt k x w' :=
  ⟨by rw [hb.cell hk]; exact h.1, by rw [hb.frozen hk]; exact h.2⟩
theorem StrAt.set {k : Nat} {x : ByteArray} {w : World} (h : StrAt k x w) (y : ByteArray) : StrAt k y (w.setCell ⟨k, 0, none⟩ (.string y)) :=
  ⟨by rw [World.cell?_setCell_same (h := h.1)], by rw [World.frozen?_setCell]; exact h.2⟩
/-- all that there was is as it was, but for block k -/
structure Only (k : Nat) (w w' : World) : Prop where
  os : w'.os = w.os
  tape : w'.tape = w.tape
  output : w'.output = w.output
  size : w.heap.size ≤ w'.heap.size
  block : ∀ j, j < w.heap.size → j ≠ k → w'.heap[j]? = w.heap[j]?
theorem Only.refl (k : Nat) (w : World) : Only k w w := ⟨rfl, rfl, rfl, Nat.le_refl _, fun _ _ _ => rfl⟩
theorem Only.trans {k : Nat} {a b c : World} (h : Only k a b) (g : Only k b c) : Only k a c :=
  ⟨g.os.trans h.os, g.tape.trans h.tape, g.output.trans h.output, Nat.le_trans h.size g.size, fun j hj hk => (g.block j (Nat.lt_of_lt_of_le hj h.size) hk).trans (h.block j hj hk)⟩
theorem Only.of {k : Nat} {w w' : World} (h : Below w.heap.size w w') : Only k w w' := ⟨h.os, h.tape, h.output, h.size, fun j hj _ => h.block j hj⟩
theorem Only.set {k : Nat} {w w' : World} (h : Only k w w') (v : Value) : Only k w (w'.setCell ⟨k, 0, none⟩ v) :=
  ⟨h.os, h.tape, h.output, by simpa using h.size, fun j hj hk => (Below.heap_setCell w' ⟨k, 0, none⟩ v j hk).trans (h.block j hj hk)⟩
theorem Only.below {k B : Nat} {w w' : World} (h : Only k w w') (hk : B ≤ k) (hB : B ≤ w.heap.size) : Below B w w' :=
  ⟨h.os, h.tape, h.output, h.size, fun j hj => h.block j (Nat.lt_of_lt_of_le hj hB) (by omega)⟩
theorem own_only {w w' : World} {k B : Nat} {e : TypeId} {size n : Nat} {v : Value} {xs : List Value} (h : w.ownsRow B e size v n xs) (hb : Only k w w') (hk : k < B) : w'.ownsRow B e size v n xs := by
  refine ⟨h.1, ?_⟩
  rcases h.2 with q | ⟨g, cap, cur, hv, hB, hg, r⟩
  · exact .inl q
  · refine .inr ⟨g, cap, cur, hv, hB, ?_, r⟩
    have : g < w.heap.size := by
      rcases Nat.lt_or_ge g w.heap.size with q | q
      · exact q
      · rw [Array.getElem?_eq_none q] at hg; cases hg
    rw [hb.block g this (by omega)]; exact hg
theorem Only.setAt {k : Nat} {w w' : World} (h : Only k w w') (i : Nat) (v : Value) : Only k w (w'.setCell ⟨k, i, none⟩ v) :=
  ⟨h.os, h.tape, h.output, by simpa using h.size, fun j hj hk => (Below.heap_setCell w' ⟨k, i, none⟩ v j hk).trans (h.block j hj hk)⟩
end
section
open Go.RowKit
def ctA (c : CT) : Array Value := #[.bool c.ns, .bool c.nc, .bool c.mr, .bool c.pr, .bool c.pv, .bool c.pb, .bool c.oc, .int .i64 c.ma, .int .i64 c.sm, .int .i64 c.mf, .int .i64 c.ms]
def ctV (c : CT) : Value := .agg (ctA c)
/-- a control lies at the block's start, and may be written -/
def Ct (g : Nat) (c : CT) (w : World) : Prop :=
  (w.cell? ⟨g, 0, none⟩ = some (.bool c.ns) ∧ w.cell? ⟨g, 1, none⟩ = some (.bool c.nc) ∧ w.cell? ⟨g, 2, none⟩ = some (.bool c.mr) ∧ w.cell? ⟨g, 3, none⟩ = some (.bool c.pr) ∧ w.cell? ⟨g, 4, none⟩ = some (.bool c.pv) ∧ w.cell? ⟨g, 5, none⟩ = some (.bool c.pb) ∧ w.cell? ⟨g, 6, none⟩ = some (.bool c.oc) ∧ w.cell? ⟨g, 7, none⟩ = some (.int .i64 c.ma) ∧ w.cell? ⟨g, 8, none⟩ = some (.int .i64 c.sm) ∧ w.cell? ⟨g, 9, none⟩ = some (.int .i64 c.mf) ∧ w.cell? ⟨g, 10, none⟩ = some (.int .i64 c.ms)) ∧
  (w.frozen? ⟨g, 0, none⟩ = false ∧ w.frozen? ⟨g, 1, none⟩ = false ∧ w.frozen? ⟨g, 2, none⟩ = false ∧ w.frozen? ⟨g, 3, none⟩ = false ∧ w.frozen? ⟨g, 4, none⟩ = false ∧ w.frozen? ⟨g, 5, none⟩ = false ∧ w.frozen? ⟨g, 6, none⟩ = false ∧ w.frozen? ⟨g, 7, none⟩ = false ∧ w.frozen? ⟨g, 8, none⟩ = false ∧ w.frozen? ⟨g, 9, none⟩ = false ∧ w.frozen? ⟨g, 10, none⟩ = false)
section
variable {g B : Nat} {c : CT} {w w' : World}
theorem Ct.new (c : CT) (w : World) (t : TypeId) : Ct w.heap.size c (w.alloc (.cells (ctA c) t)) := by
  unfold ctA
  refine ⟨⟨?_, ?_, ?_, ?_, ?_, ?_, ?_, ?_, ?_, ?_, ?_⟩, ⟨?_, ?_, ?_, ?_, ?_, ?_, ?_, ?_, ?_, ?_, ?_⟩⟩
  all_goals first
    | (rw [World.cell?_alloc_mark]; rfl)
    | exact World.frozen?_alloc_at _ _ _ _ rfl
theorem Ct.below (f : Ct g c w) (hb : Below B w w') (hg : g < B) : Ct g c w' := by
  obtain ⟨⟨h0, h1, h2, h3, h4, h5, h6, h7, h8, h9, h10⟩, ⟨f0, f1, f2, f3, f4, f5, f6, f7, f8, f9, f10⟩⟩ := f
  exact ⟨⟨(hb.cell hg).trans h0, (hb.cell hg).trans h1, (hb.cell hg).trans h2, (hb.cell hg).trans h3, (hb.cell hg).trans h4, (hb.cell hg).trans h5, (hb.cell hg).trans h6, (hb.cell hg).trans h7, (hb.cell hg).trans h8, (hb.cell hg).trans h9, (hb.cell hg).trans h10⟩, ⟨(hb.frozen hg).trans f0, (hb.frozen hg).trans f1, (hb.frozen hg).trans f2, (hb.frozen hg).trans f3, (hb.frozen hg).trans f4, (hb.frozen hg).trans f5, (hb.frozen hg).trans f6, (hb.frozen hg).trans f7, (hb.frozen hg).trans f8, (hb.frozen hg).trans f9, (hb.frozen hg).trans f10⟩⟩
theorem Ct.lt (f : Ct g c w) : g < w.heap.size := cell_lt (p := ⟨g, 0, none⟩) f.1.1
theorem Ct.next (f : Ct g c w) (hb : Below w.heap.size w w') : Ct g c w' := f.below hb f.lt
theorem Ct.drewN (f : Ct g c w) (n : Nat) : Ct g c (w.drewN n) := f.next (below_drewN _ _)
theorem Ct.only {k : Nat} (f : Ct g c w) (hb : Only k w w') (hk : g ≠ k) : Ct g c w' := by
  have e : w'.heap[g]? = w.heap[g]? := hb.block g f.lt hk
  obtain ⟨⟨h0, h1, h2, h3, h4, h5, h6, h7, h8, h9, h10⟩, ⟨f0, f1, f2, f3, f4, f5, f6, f7, f8, f9, f10⟩⟩ := f
  have e1 : ∀ i, w'.cell? ⟨g, i, none⟩ = w.cell? ⟨g, i, none⟩ := fun i => by simp only [World.cell?, e]
  have e2 : ∀ i, w'.frozen? ⟨g, i, none⟩ = w.frozen? ⟨g, i, none⟩ := fun i => by simp only [World.frozen?, e]
  exact ⟨⟨(e1 _).trans h0, (e1 _).trans h1, (e1 _).trans h2, (e1 _).trans h3, (e1 _).trans h4, (e1 _).trans h5, (e1 _).trans h6, (e1 _).trans h7, (e1 _).trans h8, (e1 _).trans h9, (e1 _).trans h10⟩, ⟨(e2 _).trans f0, (e2 _).trans f1, (e2 _).trans f2, (e2 _).trans f3, (e2 _).trans f4, (e2 _).trans f5, (e2 _).trans f6, (e2 _).trans f7, (e2 _).trans f8, (e2 _).trans f9, (e2 _).trans f10⟩⟩
theorem Ct.set_ns (f : Ct g c w) (v : Bool) : Ct g { c with ns := v } (w.setCell ⟨g, 0, none⟩ (.bool v)) := by
  obtain ⟨⟨h0, h1, h2, h3, h4, h5, h6, h7, h8, h9, h10⟩, f0⟩ := f
  refine ⟨⟨?_, ?_, ?_, ?_, ?_, ?_, ?_, ?_, ?_, ?_, ?_⟩, by simpa only [World.frozen?_setCell] using f0⟩
  all_goals first
    | (rw [World.cell?_setCell_same (h := h0)])
    | exact (World.cell?_setCell_other _ _ _ _ (by simp)).trans (by assumption)
theorem Ct.set_nc (f : Ct g c w) (v : Bool) : Ct g { c with nc := v } (w.setCell ⟨g, 1, none⟩ (.bool v)) := by
  obtain ⟨⟨h0, h1, h2, h3, h4, h5, h6, h7, h8, h9, h10⟩, f0⟩ := f
  refine ⟨⟨?_, ?_, ?_, ?_, ?_, ?_, ?_, ?_, ?_, ?_, ?_⟩, by simpa only [World.frozen?_setCell] using f0⟩
  all_goals first
    | (rw [World.cell?_setCell_same (h := h1)])
    | exact (World.cell?_setCell_other _ _ _ _ (by simp)).trans (by assumption)
theorem Ct.set_mr (f : Ct g c w) (v : Bool) : Ct g { c with mr := v } (w.setCell ⟨g, 2, none⟩ (.bool v)) := by
  obtain ⟨⟨h0, h1, h2, h3, h4, h5, h6, h7, h8, h9, h10⟩, f0⟩ := f
  refine ⟨⟨?_, ?_, ?_, ?_, ?_, ?_, ?_, ?_, ?_, ?_, ?_⟩, by simpa only [World.frozen?_setCell] using f0⟩
  all_goals first
    | (rw [World.cell?_setCell_same (h := h2)])
    | exact (World.cell?_setCell_other _ _ _ _ (by simp)).trans (by assumption)
theorem Ct.set_pr (f : Ct g c w) (v : Bool) : Ct g { c with pr := v } (w.setCell ⟨g, 3, none⟩ (.bool v)) := by
  obtain ⟨⟨h0, h1, h2, h3, h4, h5, h6, h7, h8, h9, h10⟩, f0⟩ := f
  refine ⟨⟨?_, ?_, ?_, ?_, ?_, ?_, ?_, ?_, ?_, ?_, ?_⟩, by simpa only [World.frozen?_setCell] using f0⟩
  all_goals first
    | (rw [World.cell?_setCell_same (h := h3)])
    | exact (World.cell?_setCell_other _ _ _ _ (by simp)).trans (by assumption)
theorem Ct.set_pv (f : Ct g c w) (v : Bool) : Ct g { c with pv := v } (w.setCell ⟨g, 4, none⟩ (.bool v)) := by
  obtain ⟨⟨h0, h1, h2, h3, h4, h5, h6, h7, h8, h9, h10⟩, f0⟩ := f
  refine ⟨⟨?_, ?_, ?_, ?_, ?_, ?_, ?_, ?_, ?_, ?_, ?_⟩, by simpa only [World.frozen?_setCell] using f0⟩
  all_goals first
    | (rw [World.cell?_setCell_same (h := h4)])
    | exact (World.cell?_setCell_other _ _ _ _ (by simp)).trans (by assumption)
theorem Ct.set_pb (f : Ct g c w) (v : Bool) : Ct g { c with pb := v } (w.setCell ⟨g, 5, none⟩ (.bool v)) := by
  obtain ⟨⟨h0, h1, h2, h3, h4, h5, h6, h7, h8, h9, h10⟩, f0⟩ := f
  refine ⟨⟨?_, ?_, ?_, ?_, ?_, ?_, ?_, ?_, ?_, ?_, ?_⟩, by simpa only [World.frozen?_setCell] using f0⟩
  all_goals first
    | (rw [World.cell?_setCell_same (h := h5)])
    | exact (World.cell?_setCell_other _ _ _ _ (by simp)).trans (by assumption)
theorem Ct.set_oc (f : Ct g c w) (v : Bool) : Ct g { c with oc := v } (w.setCell ⟨g, 6, none⟩ (.bool v)) := by
  obtain ⟨⟨h0, h1, h2, h3, h4, h5, h6, h7, h8, h9, h10⟩, f0⟩ := f
  refine ⟨⟨?_, ?_, ?_, ?_, ?_, ?_, ?_, ?_, ?_, ?_, ?_⟩, by simpa only [World.frozen?_setCell] using f0⟩
  all_goals first
    | (rw [World.cell?_setCell_same (h := h6)])
    | exact (World.cell?_setCell_other _ _ _ _ (by simp)).trans (by assumption)
theorem Ct.set_ma (f : Ct g c w) (v : Int) : Ct g { c with ma := v } (w.setCell ⟨g, 7, none⟩ (.int .i64 v)) := by
  obtain ⟨⟨h0, h1, h2, h3, h4, h5, h6, h7, h8, h9, h10⟩, f0⟩ := f
  refine ⟨⟨?_, ?_, ?_, ?_, ?_, ?_, ?_, ?_, ?_, ?_, ?_⟩, by simpa only [World.frozen?_setCell] using f0⟩
  all_goals first
    | (rw [World.cell?_setCell_same (h := h7)])
    | exact (World.cell?_setCell_other _ _ _ _ (by simp)).trans (by assumption)
theorem Ct.set_sm (f : Ct g c w) (v : Int) : Ct g { c with sm := v } (w.setCell ⟨g, 8, none⟩ (.int .i64 v)) := by
  obtain ⟨⟨h0, h1, h2, h3, h4, h5, h6, h7, h8, h9, h10⟩, f0⟩ := f
  refine ⟨⟨?_, ?_, ?_, ?_, ?_, ?_, ?_, ?_, ?_, ?_, ?_⟩, by simpa only [World.frozen?_setCell] using f0⟩
  all_goals first
    | (rw [World.cell?_setCell_same (h := h8)])
    | exact (World.cell?_setCell_other _ _ _ _ (by simp)).trans (by assumption)
theorem Ct.set_mf (f : Ct g c w) (v : Int) : Ct g { c with mf := v } (w.setCell ⟨g, 9, none⟩ (.int .i64 v)) := by
  obtain ⟨⟨h0, h1, h2, h3, h4, h5, h6, h7, h8, h9, h10⟩, f0⟩ := f
  refine ⟨⟨?_, ?_, ?_, ?_, ?_, ?_, ?_, ?_, ?_, ?_, ?_⟩, by simpa only [World.frozen?_setCell] using f0⟩
  all_goals first
    | (rw [World.cell?_setCell_same (h := h9)])
    | exact (World.cell?_setCell_other _ _ _ _ (by simp)).trans (by assumption)
theorem Ct.set_ms (f : Ct g c w) (v : Int) : Ct g { c with ms := v } (w.setCell ⟨g, 10, none⟩ (.int .i64 v)) := by
  obtain ⟨⟨h0, h1, h2, h3, h4, h5, h6, h7, h8, h9, h10⟩, f0⟩ := f
  refine ⟨⟨?_, ?_, ?_, ?_, ?_, ?_, ?_, ?_, ?_, ?_, ?_⟩, by simpa only [World.frozen?_setCell] using f0⟩
  all_goals first
    | (rw [World.cell?_setCell_same (h := h10)])
    | exact (World.cell?_setCell_other _ _ _ _ (by simp)).trans (by assumption)
end
/-- all of it stored -/
def ctPut (g : Nat) (c : CT) (w : World) : World := ((((((((((w.setCell ⟨g, 0, none⟩ (.bool c.ns)).setCell ⟨g, 1, none⟩ (.bool c.nc)).setCell ⟨g, 2, none⟩ (.bool c.mr)).setCell ⟨g, 3, none⟩ (.bool c.pr)).setCell ⟨g, 4, none⟩ (.bool c.pv)).setCell ⟨g, 5, none⟩ (.bool c.pb)).setCell ⟨g, 6, none⟩ (.bool c.oc)).setCell ⟨g, 7, none⟩ (.int .i64 c.ma)).setCell ⟨g, 8, none⟩ (.int .i64 c.sm)).setCell ⟨g, 9, none⟩ (.int .i64 c.mf)).setCell ⟨g, 10, none⟩ (.int .i64 c.ms)
theorem ct_put_below {w w1 : World} {g B : Nat} (h : Below B w w1) (hg : B ≤ g) (c : CT) : Below B w (ctPut g c w1) :=
  ((((((((((h.setCell (p := ⟨g, 0, none⟩) hg (.bool c.ns)).setCell (p := ⟨g, 1, none⟩) hg (.bool c.nc)).setCell (p := ⟨g, 2, none⟩) hg (.bool c.mr)).setCell (p := ⟨g, 3, none⟩) hg (.bool c.pr)).setCell (p := ⟨g, 4, none⟩) hg (.bool c.pv)).setCell (p := ⟨g, 5, none⟩) hg (.bool c.pb)).setCell (p := ⟨g, 6, none⟩) hg (.bool c.oc)).setCell (p := ⟨g, 7, none⟩) hg (.int .i64 c.ma)).setCell (p := ⟨g, 8, none⟩) hg (.int .i64 c.sm)).setCell (p := ⟨g, 9, none⟩) hg (.int .i64 c.mf)).setCell (p := ⟨g, 10, none⟩) hg (.int .i64 c.ms)
theorem Ct.put {g : Nat} {c0 : CT} {w : World} (f : Ct g c0 w) (c : CT) : Ct g c (ctPut g c w) := by
  have h := ((((((((((f.set_ns c.ns).set_nc c.nc).set_mr c.mr).set_pr c.pr).set_pv c.pv).set_pb c.pb).set_oc c.oc).set_ma c.ma).set_sm c.sm).set_mf c.mf).set_ms c.ms
  exact h
def ct0 : CT := ⟨false, false, false, false, false, false, false, 0, 0, 0, 0⟩
theorem results_cell22 {fn : Func} {p : Tmp} {ty : TypeId} (h : fn.results = #[.cell p ty]) (tmps : Array Value) (P : Program) (w : World) :
    (results fn tmps).run P w = ((asAddr (tmps.getD p undef)).run P w).andThen fun a w₁ => (loadVar ty a).run P w₁ := by
  simp only [results, h]
  simp [Sem.run_bind, Result.andThen]
end
end Go.Proofs.Ytlcojfkkeommoaa.Asc
