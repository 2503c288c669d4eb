/- Merged texts: FrsSpec EtaSpec AscBytes AscTok StaCut FieMem AscMem. -/
import Derived.Test.YtiogngfemelifaaGreatDoorRows
import Derived.Test.YtiogngfemelifaaGreatDoorZs01
import Derived.Test.YtiogngfemelifaaGreatDoorZs02
import Derived.Below
import Derived.BigQuiet
import Derived.Deep.QuietTactic
import Derived.Laws.OwnMore
import Derived.Lib.Bytealg
import Derived.Lib.Hide
import Derived.LoopTactic
import Derived.Outline
import Derived.OwnWalk
import Derived.WalkKit
import Derived.WalkLawsBesides
import Derived.WalkSpells
set_option linter.unusedVariables false
set_option linter.unusedSimpArgs false
set_option maxRecDepth 100000
namespace Go.Proofs.YtiogngfemelifaaGreatDoor.Asc
section
def exN : ByteArray := ⟨#[69, 120, 112, 105, 114, 101, 115]⟩
def daN : ByteArray := ⟨#[68, 97, 116, 101]⟩
/-- the first value of a name, or nothing -/
def firB (nm : ByteArray) (L : List F) : ByteArray := match getL nm L with | [] => ⟨#[]⟩ | v :: _ => v
def firQ (nm : ByteArray) (L : List F) : Bool := !(getL nm L).isEmpty
/-- the first date of a name -/
noncomputable def fdtD (nm : ByteArray) (L : List F) : Option Int := prsD (firB nm L).data.toList
theorem fir_none {nm : ByteArray} {L : List F} (h : firQ nm L = false) : firB nm L = ⟨#[]⟩ := by
  unfold firQ at h
  unfold firB
  cases hg : getL nm L with
  | nil => rfl
  | cons v R => rw [hg] at h; simp at h
theorem fir_small {nm : ByteArray} {L : List F} {n : Nat} (h : ∀ x ∈ getL nm L, x.size ≤ n) : (firB nm L).size ≤ n := by
  unfold firB
  cases hg : getL nm L with
  | nil => exact Nat.zero_le _
  | cons v R => exact h v (by rw [hg]; exact List.mem_cons_self ..)
theorem prs_bd {l : List UInt8} {t : Int} (h : prsD l = some t) : 0 ≤ t ∧ t ≤ 253402300799 := by
  by_cases g : GoodD l
  · rw [prs_yes g] at h
    cases h
    exact text_range20 (good_text g)
  · rw [prs_no g] at h; cases h
theorem fdt_bd {nm : ByteArray} {L : List F} {t : Int} (h : fdtD nm L = some t) : 0 ≤ t ∧ t ≤ 253402300799 := prs_bd h
theorem fdt_none {nm : ByteArray} {L : List F} (h : firQ nm L = false) : fdtD nm L = none := by
  unfold fdtD; rw [fir_none h]; exact prs_nil
/-- what a number of a control may be -/
theorem sec_ge {n : List UInt8} {bare bad : Int} (h1 : 0 ≤ bare) (h2 : 0 ≤ bad) (M : List (List UInt8)) : -1 ≤ secD n bare bad M := by
  unfold secD
  cases h : dirD n M with
  | none => exact Int.le_refl (-1)
  | some r => have := numD_le h1 h2 r; show (-1 : Int) ≤ numD bare bad r; omega
theorem resp_ge (M : List (List UInt8)) : -1 ≤ (respC M).sm ∧ -1 ≤ (respC M).ma := ⟨sec_ge (by decide) (by decide) M, sec_ge (by decide) (by decide) M⟩
/-- a duration: from 0 to MaxSeconds -/
def satS (x : Int) : Int := if x < 0 then 0 else if 2147483647 < x then 2147483647 else x
/-- 23.1 -/
def lifeE (e d : Option Int) : Int := match e, d with
  | some a, some b => satS (a - b)
  | _, _ => 0
def lifeV (c : CT) (e d : Option Int) : Int := if 0 ≤ c.sm then c.sm else if 0 ≤ c.ma then c.ma else lifeE e d
end
section
/-- an entity tag: is it weak, and what stands between the quotes -/
abbrev ET := Bool × ByteArray
def tagI (b : Int) : Bool := decide (32 < b ∧ b ≠ 34 ∧ b ≠ 127)
def tagT (l : List UInt8) : Bool := allI tagI l
/-- what stands between the quotes -/
def tagOf : List UInt8 → Option (List UInt8)
  | [] => none
  | c :: r => if c = 34 ∧ r.getLast? = some 34 ∧ tagT r.dropLast = true then some r.dropLast else none
def parE (l : List UInt8) : Option ET :=
  if l.take 2 = [87, 47] then (tagOf (l.drop 2)).map (fun t => (true, bs t)) else (tagOf l).map (fun t => (false, bs t))
theorem tagOf_cons (c : UInt8) (r : List UInt8) : tagOf (c :: r) = if c = 34 ∧ r.getLast? = some 34 ∧ tagT r.dropLast = true then some r.dropLast else none := rfl
theorem tagOf_no1 {l : List UInt8} (h : l.head? ≠ some 34) : tagOf l = none := by
  cases l with
  | nil => rfl
  | cons c r => rw [tagOf_cons, if_neg]; rintro ⟨rfl, _⟩; exact h rfl
theorem tagOf_no2 {c : UInt8} {r : List UInt8} (h : r.getLast? ≠ some 34) : tagOf (c :: r) = none := by
  rw [tagOf_cons, if_neg]; rintro ⟨_, h2, _⟩; exact h h2
theorem last_snoc {l : List UInt8} {c : UInt8} (h : l.getLast? = some c) : l = l.dropLast ++ [c] := by
  have hne : l ≠ [] := by rintro rfl; cases h
  rw [List.getLast?_eq_some_getLast hne] at h
  have h2 := Option.some.inj h
  conv => lhs; rw [← List.dropLast_concat_getLast hne, h2]
theorem tagOf_some {l t : List UInt8} (h : tagOf l = some t) : l = 34 :: (t ++ [34]) ∧ tagT t = true := by
  cases l with
  | nil => cases h
  | cons c r =>
    rw [tagOf_cons] at h
    split at h
    · rename_i hc
      obtain ⟨rfl, h2, h3⟩ := hc
      obtain rfl := Option.some.inj h
      exact ⟨by rw [← last_snoc h2], h3⟩
    · cases h
theorem tagOf_short {l : List UInt8} (h : l.length < 2) : tagOf l = none := by
  rcases e : tagOf l with _ | t
  · rfl
  · have := (tagOf_some e).1
    rw [this] at h; simp at h; omega
end
section
open Go.RowKit
theorem ret_bool {a b : Bool} (h : a = b) : Ending.returned (.bool a) = .returned (.bool b) := by rw [h]
theorem ret_int {k : IntKind} {a b : Int} (h : a = b) : Ending.returned (.int k a) = .returned (.int k b) := by rw [h]
theorem isBlank_any (b : Int) (w : World) :
    Calls Tryz.prog 120 #[.int .u8 b] w fun e w' => e = .returned (.bool (blankI b)) ∧ w = w' := by
  go_enter Tryz.func120, Tryz.ntmps120
  go_wp2
  all_goals (go_ret; exact ⟨ret_bool (by simp [blankI, *]), rfl⟩)
theorem rblank_any (b : Int) (w : World) :
    Calls Tryz.prog 128 #[.int .u8 b] w fun e w' => e = .returned (.bool (blankI b)) ∧ w = w' := by
  go_enter Tryz.func128, Tryz.ntmps128
  go_wp2
  all_goals (go_ret; exact ⟨ret_bool (by simp [blankI, *]), rfl⟩)
theorem isDigit_any (b : Int) (w : World) (h0 : 0 ≤ b) (h1 : b ≤ 255) :
    Calls Tryz.prog 95 #[.int .u8 b] w fun e w' => e = .returned (.bool (digitI b)) ∧ w = w' := by
  go_enter Tryz.func95, Tryz.ntmps95
  go_wp2
  all_goals (go_ret; exact ⟨ret_bool (by rw [Bool.eq_iff_iff]; simp [digitI]; omega), rfl⟩)
theorem rDigit_any (b : Int) (w : World) (h0 : 0 ≤ b) (h1 : b ≤ 255) :
    Calls Tryz.prog 110 #[.int .u8 b] w fun e w' => e = .returned (.bool (digitI b)) ∧ w = w' := by
  go_enter Tryz.func110, Tryz.ntmps110
  go_wp2
  all_goals (go_ret; exact ⟨ret_bool (by rw [Bool.eq_iff_iff]; simp [digitI]; omega), rfl⟩)
theorem isTextByte_any (b : Int) (w : World) (h0 : 0 ≤ b) (h1 : b ≤ 255) :
    Calls Tryz.prog 135 #[.int .u8 b] w fun e w' => e = .returned (.bool (textI b)) ∧ w = w' := by
  go_enter Tryz.func135, Tryz.ntmps135
  go_wp2
  all_goals (go_ret; exact ⟨ret_bool (by rw [Bool.eq_iff_iff]; simp [textI, *] <;> omega), rfl⟩)
theorem textByte_any (b : Int) (w : World) (h0 : 0 ≤ b) (h1 : b ≤ 255) :
    Calls Tryz.prog 129 #[.int .u8 b] w fun e w' => e = .returned (.bool (textI b)) ∧ w = w' := by
  go_enter Tryz.func129, Tryz.ntmps129
  go_wp2
  all_goals (go_ret; exact ⟨ret_bool (by rw [Bool.eq_iff_iff]; simp [textI, *] <;> omega), rfl⟩)
theorem lowerByte_any (b : Int) (w : World) (h0 : 0 ≤ b) (h1 : b ≤ 255) :
    Calls Tryz.prog 66 #[.int .u8 b] w fun e w' => e = .returned (.int .u8 (lowI b)) ∧ w = w' := by
  go_enter Tryz.func66, Tryz.ntmps66
  go_wp2
  all_goals (go_ret; exact ⟨ret_int (by unfold lowI; split <;> omega), rfl⟩)
theorem isTokenByte_any (b : Int) (w : World) (h0 : 0 ≤ b) (h1 : b ≤ 255) :
    Calls Tryz.prog 65 #[.int .u8 b] w fun e w' => e = .returned (.bool (tokI b)) ∧ w = w' := by
  go_enter Tryz.func65, Tryz.ntmps65
  go_wp2
  all_goals (go_ret; exact ⟨ret_bool (by first | (simp [tokI, signI, *]; done) | (rw [Bool.eq_iff_iff]; simp [tokI, signI, letterI, digitI, *] <;> omega)), rfl⟩)
theorem rTokenByte_any (b : Int) (w : World) (h0 : 0 ≤ b) (h1 : b ≤ 255) :
    Calls Tryz.prog 73 #[.int .u8 b] w fun e w' => e = .returned (.bool (tokI b)) ∧ w = w' := by
  go_enter Tryz.func73, Tryz.ntmps73
  go_wp2
  all_goals try (go_ret; exact ⟨ret_bool (by rw [Bool.eq_iff_iff]; simp [tokI, letterI, digitI] <;> omega), rfl⟩)
  all_goals
    go_loop [3] (fun i => ∃ k : Nat, k ≤ 15 ∧ i = .int .i64 k ∧ ∀ j < k, signL.getD j 0 ≠ b) (fun i => 15 - (intOf i).toNat)
    case atStart => exact ⟨0, by omega, rfl, by omega⟩
    case round =>
      obtain ⟨k, hk, rfl, hno⟩ := hrel
      by_cases hlt : k < 15
      · go_wp2
        · go_ret
          exact ⟨ret_bool (sign_yes hlt ‹_›).symm, rfl⟩
        · go_round
          case rel => exact ⟨k + 1, by omega, by go_num, sign_more hno hlt ‹_›⟩
          case measure => simp [intOf]; omega
      · go_wp2
        go_ret
        exact ⟨ret_bool (sign_no hno (by omega) (by simp [letterI, digitI] <;> omega)).symm, rfl⟩
end
section
open Go.RowKit
theorem byte_bd (s : ByteArray) (k : Nat) (h : k < s.size) : (0 : Int) ≤ (s[k].toNat : Int) ∧ (s[k].toNat : Int) ≤ 255 := by
  have := s[k].toNat_lt; omega
theorem tokL_not {s : ByteArray} {k : Nat} (hk : k < s.size) (hp : tokI (s[k].toNat) = false) : tokL s.data.toList = false := by
  simp [tokL, all_not hk hp]
theorem textL_not {s : ByteArray} {k : Nat} (hk : k < s.size) (hp : textI (s[k].toNat) = false) : textL s.data.toList = false := all_not hk hp
theorem textL_end {s : ByteArray} {k : Nat} (h : allI textI (s.data.toList.take k) = true) (hk : s.size ≤ k) : textL s.data.toList = true := all_end h hk
theorem tokL_end {s : ByteArray} {k : Nat} (h : allI tokI (s.data.toList.take k) = true) (hk : s.size ≤ k) : tokL s.data.toList = !s.toList.isEmpty := by
  rw [ByteArray.toList_eq]; simp [tokL, all_end h hk]
theorem Token_any (s : ByteArray) (w : World) (hs : s.size ≤ maxLen) :
    Calls Tryz.prog 36 #[.string s] w fun e w' => e = .returned (.bool (tokL s.data.toList)) ∧ w = w' := by
  unfold maxLen at hs
  go_enter Tryz.func36, Tryz.ntmps36
  go_wp2
  go_loop [6] (fun i => ∃ k : Nat, k ≤ s.size ∧ i = .int .i64 k ∧ allI tokI (s.data.toList.take k) = true) (fun i => s.size - (intOf i).toNat)
  case atStart => exact ⟨0, Nat.zero_le _, rfl, rfl⟩
  case round =>
    obtain ⟨k, hk, rfl, hall⟩ := hrel
    by_cases hlt : k < s.size
    · have hb := byte_bd s k hlt
      rcases hp : tokI (s[k].toNat) with _ | _
      · go_wp2_with (go_at_call 65; refine (isTokenByte_any _ _ hb.1 hb.2).mono ?_; rintro e w' ⟨rfl, rfl⟩)
        go_ret
        exact ⟨ret_bool (tokL_not hlt hp).symm, rfl⟩
      · go_wp2_with (go_at_call 65; refine (isTokenByte_any _ _ hb.1 hb.2).mono ?_; rintro e w' ⟨rfl, rfl⟩)
        go_round
        case rel => exact ⟨k + 1, by omega, by go_num, all_more hall hlt hp⟩
        case measure => simp [intOf]; omega
    · go_wp2
      go_ret
      exact ⟨ret_bool (tokL_end hall (by omega)).symm, rfl⟩
theorem rToken_any (s : ByteArray) (w : World) (hs : s.size ≤ maxLen) :
    Calls Tryz.prog 47 #[.string s] w fun e w' => e = .returned (.bool (tokL s.data.toList)) ∧ w = w' := by
  unfold maxLen at hs
  go_enter Tryz.func47, Tryz.ntmps47
  go_wp2
  go_loop [3] (fun i => ∃ k : Nat, k ≤ s.size ∧ i = .int .i64 k ∧ allI tokI (s.data.toList.take k) = true) (fun i => s.size - (intOf i).toNat)
  case atStart => exact ⟨0, Nat.zero_le _, rfl, rfl⟩
  case round =>
    obtain ⟨k, hk, rfl, hall⟩ := hrel
    by_cases hlt : k < s.size
    · have hb := byte_bd s k hlt
      rcases hp : tokI (s[k].toNat) with _ | _
      · go_wp2_with (go_at_call 73; refine (rTokenByte_any _ _ hb.1 hb.2).mono ?_; rintro e w' ⟨rfl, rfl⟩)
        go_ret
        exact ⟨ret_bool (tokL_not hlt hp).symm, rfl⟩
      · go_wp2_with (go_at_call 73; refine (rTokenByte_any _ _ hb.1 hb.2).mono ?_; rintro e w' ⟨rfl, rfl⟩)
        go_round
        case rel => exact ⟨k + 1, by omega, by go_num, all_more hall hlt hp⟩
        case measure => simp [intOf]; omega
    · go_wp2
      go_ret
      exact ⟨ret_bool (tokL_end hall (by omega)).symm, rfl⟩
theorem Text_any (s : ByteArray) (w : World) (hs : s.size ≤ maxLen) :
    Calls Tryz.prog 132 #[.string s] w fun e w' => e = .returned (.bool (textL s.data.toList)) ∧ w = w' := by
  unfold maxLen at hs
  go_enter Tryz.func132, Tryz.ntmps132
  go_wp2
  go_loop [6] (fun i => ∃ k : Nat, k ≤ s.size ∧ i = .int .i64 k ∧ allI textI (s.data.toList.take k) = true) (fun i => s.size - (intOf i).toNat)
  case atStart => exact ⟨0, Nat.zero_le _, rfl, rfl⟩
  case round =>
    obtain ⟨k, hk, rfl, hall⟩ := hrel
    by_cases hlt : k < s.size
    · have hb := byte_bd s k hlt
      rcases hp : textI (s[k].toNat) with _ | _
      · go_wp2_with (go_at_call 135; refine (isTextByte_any _ _ hb.1 hb.2).mono ?_; rintro e w' ⟨rfl, rfl⟩)
        go_ret
        exact ⟨ret_bool (textL_not hlt hp).symm, rfl⟩
      · go_wp2_with (go_at_call 135; refine (isTextByte_any _ _ hb.1 hb.2).mono ?_; rintro e w' ⟨rfl, rfl⟩)
        go_round
        case rel => exact ⟨k + 1, by omega, by go_num, all_more hall hlt hp⟩
        case measure => simp [intOf]; omega
    · go_wp2
      go_ret
      exact ⟨ret_bool (textL_end hall (by omega)).symm, rfl⟩
end
section
open Go.RowKit
/-- a fact that no assumption opens: a walk's search unfolds 'Hid', and runs into a size of a slice -/
def Box (p : Prop) : Prop := True → p
theorem box {p : Prop} (h : p) : Box p := fun _ => h
theorem Box.out {p : Prop} (h : Box p) : p := h trivial
theorem below_drewN (w : World) (n : Nat) : Below w.heap.size w (w.drewN n) := ⟨rfl, rfl, rfl, Nat.le_refl _, fun _ _ => rfl⟩
end
section
open Go.RowKit
theorem below_new (w : World) (o : Obj) : Below w.heap.size w (w.alloc o) := (Below.refl _ _).alloc (Nat.le_refl _) o
/-- a field lies at the block's start, and may be written -/
def Fld (g : Nat) (x y : ByteArray) (w : World) : Prop :=
  w.cell? ⟨g, 0, none⟩ = some (.string x) ∧ w.cell? ⟨g, 1, none⟩ = some (.string y) ∧ w.frozen? ⟨g, 0, none⟩ = false ∧ w.frozen? ⟨g, 1, none⟩ = false
theorem Fld.new (x y : ByteArray) (w : World) (t : TypeId) : Fld w.heap.size x y (w.alloc (.cells #[.string x, .string y] t)) := by
  exact ⟨by rw [World.cell?_alloc_mark]; rfl, by rw [World.cell?_alloc_mark]; rfl, by rw [World.frozen?_alloc_at _ _ _ _ rfl], by rw [World.frozen?_alloc_at _ _ _ _ rfl]⟩
theorem Fld.below {g B : Nat} {x y : ByteArray} {w w' : World} (h : Fld g x y w) (hb : Below B w w') (hg : g < B) : Fld g x y w' := by
  obtain ⟨h1, h2, h3, h4⟩ := h
  exact ⟨by rw [hb.cell hg]; exact h1, by rw [hb.cell hg]; exact h2, by rw [hb.frozen hg]; exact h3, by rw [hb.frozen hg]; exact h4⟩
theorem Fld.lt {g : Nat} {x y : ByteArray} {w : World} (h : Fld g x y w) : g < w.heap.size := by
  have h1 := h.1
  rcases Nat.lt_or_ge g w.heap.size with q | q
  · exact q
  · simp [World.cell?, Array.getElem?_eq_none q] at h1
theorem Fld.drew {g : Nat} {x y : ByteArray} {w : World} (h : Fld g x y w) : Fld g x y w.drew := h.below (Below.refl _ _).drew h.lt
theorem Fld.drewN {g n : Nat} {x y : ByteArray} {w : World} (h : Fld g x y w) : Fld g x y (w.drewN n) := h.below (below_drewN _ _) h.lt
theorem small_max {s : ByteArray} (h : Box (s.size ≤ 65536)) : Box (s.size ≤ maxLen) := box (by have := h.out; unfold maxLen; omega)
end
section
open Go.RowKit
def bv (c : UInt8) : Value := .int .u8 (c.toNat : Int)
/-- Block g holds the bytes l from its head on, and none of these cells is frozen. -/
def Bys (w : World) (g : Nat) (l : List UInt8) : Prop := g < w.heap.size ∧ ∀ j, j < l.length → w.cell? ⟨g, j, none⟩ = some (bv (l.getD j 0)) ∧ w.frozen? ⟨g, j, none⟩ = false
theorem getD_get (l : List UInt8) (j : Nat) (hj : j < l.length) : l.getD j 0 = l[j] := by simp [List.getD_eq_getElem?_getD, hj]
theorem Bys.lt {w : World} {g : Nat} {l : List UInt8} (h : Bys w g l) : g < w.heap.size := h.1
theorem Bys.cell {w : World} {g : Nat} {l : List UInt8} (h : Bys w g l) {j : Nat} (hj : j < l.length) : w.cell? ⟨g, j, none⟩ = some (bv (l.getD j 0)) := (h.2 j hj).1
theorem Bys.frozen {w : World} {g : Nat} {l : List UInt8} (h : Bys w g l) {j : Nat} (hj : j < l.length) : w.frozen? ⟨g, j, none⟩ = false := (h.2 j hj).2
theorem Bys.set {w : World} {g : Nat} {l : List UInt8} (h : Bys w g l) {k : Nat} (hk : k < l.length) (c : UInt8) : Bys (w.setCell ⟨g, k, none⟩ (bv c)) g (l.set k c) := by
  refine ⟨by simpa using h.1, fun j hj => ?_⟩
  rw [List.length_set] at hj
  refine ⟨?_, by rw [World.frozen?_setCell]; exact (h.2 j hj).2⟩
  by_cases e : k = j
  · subst e
    rw [World.cell?_setCell_same (h := (h.2 k hk).1)]
    simp [hk]
  · rw [World.cell?_setCell_other (h := fun h2 => e (by injection h2)), (h.2 j hj).1]
    simp [List.getD_eq_getElem?_getD, List.getElem?_set_ne e]
theorem Bys.new (w : World) (C : Array Value) (t : TypeId) (l : List UInt8) (lo hi : Nat) (hfr : l.length ≤ lo) (hC : ∀ j, j < l.length → C[j]? = some (bv (l.getD j 0))) : Bys (w.alloc (.cells C t (lo, hi))) w.heap.size l :=
  ⟨by simp, fun j hj => ⟨by rw [World.cell?_alloc_mark]; exact hC j hj, by rw [World.frozen?_alloc_mark]; simp; omega⟩⟩
theorem Bys.drew {w : World} {g : Nat} {l : List UInt8} (h : Bys w g l) : Bys w.drew g l := h
/-- 'string(b)' of such a block -/
theorem Bys.str {P : Program} {w : World} {g : Nat} {l : List UInt8} (h : Bys w g l) (src dst e : TypeId) (n cap : Nat) (hn : n = l.length) (hs : P.underlying src = some (.slice e)) (he : P.underlying e = some (.int .u8)) (hd : P.underlying dst = some .string) :
    (convert src dst (.slice (some ⟨g, 0, none⟩) n cap)).run P w = .ok (.string ⟨l.toArray⟩) w := by
  subst hn
  refine run_convert_bytes_back w src dst e ⟨g, 0, none⟩ cap l hs he hd fun j hj => ?_
  have := h.cell hj
  rw [getD_get l j hj] at this
  have ea : (⟨g, 0, none⟩ : Addr).add j = ⟨g, j, none⟩ := by unfold Addr.add; split <;> simp_all
  rw [ea]; exact this
theorem bv_low (c : UInt8) : bv (lowB c) = .int .u8 (lowI c.toNat) := by
  have h := c.toNat_lt
  have e : (lowB c).toNat = (lowI c.toNat).toNat := by
    unfold lowB; rw [UInt8.toNat_ofNat']; apply Nat.mod_eq_of_lt; unfold lowI; split <;> omega
  unfold bv; rw [e]
  congr 1
  unfold lowI; split <;> omega
theorem lowB_same {c : UInt8} (h : lowI c.toNat = c.toNat) : lowB c = c := by
  unfold lowB; rw [h]; simp
/-- a list of n bytes whose first k have been made the lowered ones of l -/
def half (r l : List UInt8) (k : Nat) : List UInt8 := lowL (l.take k) ++ r.drop k
theorem lowL_length (l : List UInt8) : (lowL l).length = l.length := by simp [lowL]
theorem half_length (r l : List UInt8) (k : Nat) (hr : r.length = l.length) : (half r l k).length = l.length := by
  simp only [half, List.length_append, lowL_length, List.length_take, List.length_drop]; omega
theorem half_zero (r l : List UInt8) : half r l 0 = r := by simp [half, lowL]
theorem half_get (r l : List UInt8) (k : Nat) (hr : r.length = l.length) (hk : k < l.length) : (half r l k).getD k 0 = r.getD k 0 := by
  have e : (lowL (l.take k)).length = k := by rw [lowL_length, List.length_take]; omega
  simp only [half, List.getD_eq_getElem?_getD]
  rw [List.getElem?_append_right (by omega), e, Nat.sub_self, List.getElem?_drop]; rfl
theorem half_step (r l : List UInt8) (k : Nat) (hr : r.length = l.length) (hk : k < l.length) (c : UInt8) (hc : l[k] = c) : (half r l k).set k (lowB c) = half r l (k + 1) := by
  subst hc
  have e : (lowL (l.take k)).length = k := by rw [lowL_length, List.length_take]; omega
  simp only [half]
  rw [List.set_append_right _ _ (by omega), e, Nat.sub_self, List.drop_eq_getElem_cons (i := k) (by omega), List.set_cons_zero, List.take_succ_eq_append_getElem hk]
  simp only [lowL, lowB, List.map_append, List.map_cons, List.map_nil, List.append_assoc, List.cons_append, List.nil_append]
theorem half_end (r l : List UInt8) (k : Nat) (hr : r.length = l.length) (hk : l.length ≤ k) : half r l k = lowL l := by
  simp only [half]; rw [List.take_of_length_le hk, List.drop_of_length_le (by omega), List.append_nil]
end
end Go.Proofs.YtiogngfemelifaaGreatDoor.Asc
