/- Merged texts: TarSeg TarUri AscBytes AscTok StaCut AscMem AscOwn. -/
import Derived.Test.YtjabcfabenobiaaGreatRows
import Derived.Test.YtjabcfabenobiaaGreatM01
import Derived.Below
import Derived.BigQuiet
import Derived.Deep.QuietTactic
import Derived.Laws.AppendOwnNone
import Derived.Laws.OwnMore
import Derived.Lib.Bytealg
import Derived.Lib.Hide
import Derived.LoopTactic
import Derived.Outline
import Derived.OwnWalk
import Derived.WalkKit
import Derived.WalkLawsBesides
import Derived.WalkSpells
set_option linter.unusedVariables false
set_option linter.unusedSimpArgs false
set_option maxRecDepth 100000
namespace Go.Proofs.YtjabcfabenobiaaGreat.Asc
section
/-- the pieces between the slashes; what is joined again -/
def piecesL (l : List UInt8) : List (List UInt8) := match l with
  | [] => [[]]
  | c :: r => if c = 47 then [] :: piecesL r else match piecesL r with
    | [] => [[c]]
    | p :: ps => (c :: p) :: ps
def joinL (ps : List (List UInt8)) : List UInt8 := ps.flatMap (47 :: ·)
def dot1 : List UInt8 := [46]
def dot2 : List UInt8 := [46, 46]
/-- the pieces that are left: out are those that have been left so far -/
def dotsL (out : List (List UInt8)) : List (List UInt8) → List (List UInt8)
  | [] => out
  | x :: r =>
    if x = dot2 then (if r = [] then out.dropLast ++ [[]] else dotsL out.dropLast r)
    else if x = dot1 then (if r = [] then out ++ [[]] else dotsL out r)
    else dotsL (out ++ [x]) r
end
section
/-- host, port, path, query, whether there is a query -/
abbrev U := List UInt8 × Int × List UInt8 × List UInt8 × Bool
end
section
open Go.RowKit
theorem ret_bool {a b : Bool} (h : a = b) : Ending.returned (.bool a) = .returned (.bool b) := by rw [h]
theorem ret_int {k : IntKind} {a b : Int} (h : a = b) : Ending.returned (.int k a) = .returned (.int k b) := by rw [h]
theorem eqb_t {a b : Int} (h : (a == b) = true) : a = b := by simpa using h
theorem isBlank_any (b : Int) (w : World) :
    Calls Tryz.prog 126 #[.int .u8 b] w fun e w' => e = .returned (.bool (blankI b)) ∧ w = w' := by
  go_enter Tryz.func126, Tryz.ntmps126
  go_wp2
  all_goals (go_ret; exact ⟨ret_bool (by simp [blankI, *]), rfl⟩)
theorem rblank_any (b : Int) (w : World) :
    Calls Tryz.prog 96 #[.int .u8 b] w fun e w' => e = .returned (.bool (blankI b)) ∧ w = w' := by
  go_enter Tryz.func96, Tryz.ntmps96
  go_wp2
  all_goals (go_ret; exact ⟨ret_bool (by simp [blankI, *]), rfl⟩)
theorem isDigit_any (b : Int) (w : World) (h0 : 0 ≤ b) (h1 : b ≤ 255) :
    Calls Tryz.prog 118 #[.int .u8 b] w fun e w' => e = .returned (.bool (digitI b)) ∧ w = w' := by
  go_enter Tryz.func118, Tryz.ntmps118
  go_wp2
  all_goals (go_ret; exact ⟨ret_bool (by rw [Bool.eq_iff_iff]; simp [digitI]; omega), rfl⟩)
theorem rDigit_any (b : Int) (w : World) (h0 : 0 ≤ b) (h1 : b ≤ 255) :
    Calls Tryz.prog 59 #[.int .u8 b] w fun e w' => e = .returned (.bool (digitI b)) ∧ w = w' := by
  go_enter Tryz.func59, Tryz.ntmps59
  go_wp2
  all_goals (go_ret; exact ⟨ret_bool (by rw [Bool.eq_iff_iff]; simp [digitI]; omega), rfl⟩)
theorem isTextByte_any (b : Int) (w : World) (h0 : 0 ≤ b) (h1 : b ≤ 255) :
    Calls Tryz.prog 104 #[.int .u8 b] w fun e w' => e = .returned (.bool (textI b)) ∧ w = w' := by
  go_enter Tryz.func104, Tryz.ntmps104
  go_wp2
  all_goals (go_ret; exact ⟨ret_bool (by rw [Bool.eq_iff_iff]; simp [textI, *] <;> omega), rfl⟩)
theorem textByte_any (b : Int) (w : World) (h0 : 0 ≤ b) (h1 : b ≤ 255) :
    Calls Tryz.prog 80 #[.int .u8 b] w fun e w' => e = .returned (.bool (textI b)) ∧ w = w' := by
  go_enter Tryz.func80, Tryz.ntmps80
  go_wp2
  all_goals (go_ret; exact ⟨ret_bool (by rw [Bool.eq_iff_iff]; simp [textI, *] <;> omega), rfl⟩)
theorem lowerByte_any (b : Int) (w : World) (h0 : 0 ≤ b) (h1 : b ≤ 255) :
    Calls Tryz.prog 127 #[.int .u8 b] w fun e w' => e = .returned (.int .u8 (lowI b)) ∧ w = w' := by
  go_enter Tryz.func127, Tryz.ntmps127
  go_wp2
  all_goals (go_ret; exact ⟨ret_int (by unfold lowI; split <;> omega), rfl⟩)
theorem isTokenByte_any (b : Int) (w : World) (h0 : 0 ≤ b) (h1 : b ≤ 255) :
    Calls Tryz.prog 99 #[.int .u8 b] w fun e w' => e = .returned (.bool (tokI b)) ∧ w = w' := by
  go_enter Tryz.func99, Tryz.ntmps99
  go_wp2
  all_goals (go_ret; exact ⟨ret_bool (by first | (simp [tokI, signI, *]; done) | (rw [Bool.eq_iff_iff]; simp [tokI, signI, letterI, digitI, *] <;> omega)), rfl⟩)
theorem rTokenByte_any (b : Int) (w : World) (h0 : 0 ≤ b) (h1 : b ≤ 255) :
    Calls Tryz.prog 78 #[.int .u8 b] w fun e w' => e = .returned (.bool (tokI b)) ∧ w = w' := by
  go_enter Tryz.func78, Tryz.ntmps78
  go_wp2
  all_goals try (go_ret; exact ⟨ret_bool (by rw [Bool.eq_iff_iff]; simp [tokI, letterI, digitI] <;> omega), rfl⟩)
  all_goals
    go_loop [3] (fun i => ∃ k : Nat, k ≤ 15 ∧ i = .int .i64 k ∧ ∀ j < k, signL.getD j 0 ≠ b) (fun i => 15 - (intOf i).toNat)
    case atStart => exact ⟨0, by omega, rfl, by omega⟩
    case round =>
      obtain ⟨k, hk, rfl, hno⟩ := hrel
      by_cases hlt : k < 15
      · go_wp2
        · go_ret
          exact ⟨ret_bool (sign_yes hlt ‹_›).symm, rfl⟩
        · go_round
          case rel => exact ⟨k + 1, by omega, by go_num, sign_more hno hlt ‹_›⟩
          case measure => simp [intOf]; omega
      · go_wp2
        go_ret
        exact ⟨ret_bool (sign_no hno (by omega) (by simp [letterI, digitI] <;> omega)).symm, rfl⟩
end
section
open Go.RowKit
theorem byte_bd (s : ByteArray) (k : Nat) (h : k < s.size) : (0 : Int) ≤ (s[k].toNat : Int) ∧ (s[k].toNat : Int) ≤ 255 := by
  have := s[k].toNat_lt; omega
theorem tokL_not {s : ByteArray} {k : Nat} (hk : k < s.size) (hp : tokI (s[k].toNat) = false) : tokL s.data.toList = false := by
  simp [tokL, all_not hk hp]
theorem textL_not {s : ByteArray} {k : Nat} (hk : k < s.size) (hp : textI (s[k].toNat) = false) : textL s.data.toList = false := all_not hk hp
theorem textL_end {s : ByteArray} {k : Nat} (h : allI textI (s.data.toList.take k) = true) (hk : s.size ≤ k) : textL s.data.toList = true := all_end h hk
theorem tokL_end {s : ByteArray} {k : Nat} (h : allI tokI (s.data.toList.take k) = true) (hk : s.size ≤ k) : tokL s.data.toList = !s.toList.isEmpty := by
  rw [ByteArray.toList_eq]; simp [tokL, all_end h hk]
theorem Token_any (s : ByteArray) (w : World) (hs : s.size ≤ maxLen) :
    Calls Tryz.prog 82 #[.string s] w fun e w' => e = .returned (.bool (tokL s.data.toList)) ∧ w = w' := by
  unfold maxLen at hs
  go_enter Tryz.func82, Tryz.ntmps82
  go_wp2
  go_loop [6] (fun i => ∃ k : Nat, k ≤ s.size ∧ i = .int .i64 k ∧ allI tokI (s.data.toList.take k) = true) (fun i => s.size - (intOf i).toNat)
  case atStart => exact ⟨0, Nat.zero_le _, rfl, rfl⟩
  case round =>
    obtain ⟨k, hk, rfl, hall⟩ := hrel
    by_cases hlt : k < s.size
    · have hb := byte_bd s k hlt
      rcases hp : tokI (s[k].toNat) with _ | _
      · go_wp2_with (go_at_call 99; refine (isTokenByte_any _ _ hb.1 hb.2).mono ?_; rintro e w' ⟨rfl, rfl⟩)
        go_ret
        exact ⟨ret_bool (tokL_not hlt hp).symm, rfl⟩
      · go_wp2_with (go_at_call 99; refine (isTokenByte_any _ _ hb.1 hb.2).mono ?_; rintro e w' ⟨rfl, rfl⟩)
        go_round
        case rel => exact ⟨k + 1, by omega, by go_num, all_more hall hlt hp⟩
        case measure => simp [intOf]; omega
    · go_wp2
      go_ret
      exact ⟨ret_bool (tokL_end hall (by omega)).symm, rfl⟩
theorem rToken_any (s : ByteArray) (w : World) (hs : s.size ≤ maxLen) :
    Calls Tryz.prog 52 #[.string s] w fun e w' => e = .returned (.bool (tokL s.data.toList)) ∧ w = w' := by
  unfold maxLen at hs
  go_enter Tryz.func52, Tryz.ntmps52
  go_wp2
  go_loop [3] (fun i => ∃ k : Nat, k ≤ s.size ∧ i = .int .i64 k ∧ allI tokI (s.data.toList.take k) = true) (fun i => s.size - (intOf i).toNat)
  case atStart => exact ⟨0, Nat.zero_le _, rfl, rfl⟩
  case round =>
    obtain ⟨k, hk, rfl, hall⟩ := hrel
    by_cases hlt : k < s.size
    · have hb := byte_bd s k hlt
      rcases hp : tokI (s[k].toNat) with _ | _
      · go_wp2_with (go_at_call 78; refine (rTokenByte_any _ _ hb.1 hb.2).mono ?_; rintro e w' ⟨rfl, rfl⟩)
        go_ret
        exact ⟨ret_bool (tokL_not hlt hp).symm, rfl⟩
      · go_wp2_with (go_at_call 78; refine (rTokenByte_any _ _ hb.1 hb.2).mono ?_; rintro e w' ⟨rfl, rfl⟩)
        go_round
        case rel => exact ⟨k + 1, by omega, by go_num, all_more hall hlt hp⟩
        case measure => simp [intOf]; omega
    · go_wp2
      go_ret
      exact ⟨ret_bool (tokL_end hall (by omega)).symm, rfl⟩
theorem Text_any (s : ByteArray) (w : World) (hs : s.size ≤ maxLen) :
    Calls Tryz.prog 88 #[.string s] w fun e w' => e = .returned (.bool (textL s.data.toList)) ∧ w = w' := by
  unfold maxLen at hs
  go_enter Tryz.func88, Tryz.ntmps88
  go_wp2
  go_loop [6] (fun i => ∃ k : Nat, k ≤ s.size ∧ i = .int .i64 k ∧ allI textI (s.data.toList.take k) = true) (fun i => s.size - (intOf i).toNat)
  case atStart => exact ⟨0, Nat.zero_le _, rfl, rfl⟩
  case round =>
    obtain ⟨k, hk, rfl, hall⟩ := hrel
    by_cases hlt : k < s.size
    · have hb := byte_bd s k hlt
      rcases hp : textI (s[k].toNat) with _ | _
      · go_wp2_with (go_at_call 104; refine (isTextByte_any _ _ hb.1 hb.2).mono ?_; rintro e w' ⟨rfl, rfl⟩)
        go_ret
        exact ⟨ret_bool (textL_not hlt hp).symm, rfl⟩
      · go_wp2_with (go_at_call 104; refine (isTextByte_any _ _ hb.1 hb.2).mono ?_; rintro e w' ⟨rfl, rfl⟩)
        go_round
        case rel => exact ⟨k + 1, by omega, by go_num, all_more hall hlt hp⟩
        case measure => simp [intOf]; omega
    · go_wp2
      go_ret
      exact ⟨ret_bool (textL_end hall (by omega)).symm, rfl⟩
theorem rText_any (s : ByteArray) (w : World) (hs : s.size ≤ maxLen) :
    Calls Tryz.prog 60 #[.string s] w fun e w' => e = .returned (.bool (textL s.data.toList)) ∧ w = w' := by
  unfold maxLen at hs
  go_enter Tryz.func60, Tryz.ntmps60
  go_wp2
  go_loop [3] (fun i => ∃ k : Nat, k ≤ s.size ∧ i = .int .i64 k ∧ allI textI (s.data.toList.take k) = true) (fun i => s.size - (intOf i).toNat)
  case atStart => exact ⟨0, Nat.zero_le _, rfl, rfl⟩
  case round =>
    obtain ⟨k, hk, rfl, hall⟩ := hrel
    by_cases hlt : k < s.size
    · have hb := byte_bd s k hlt
      rcases hp : textI (s[k].toNat) with _ | _
      · go_wp2_with (go_at_call 80; refine (textByte_any _ _ hb.1 hb.2).mono ?_; rintro e w' ⟨rfl, rfl⟩)
        go_ret
        exact ⟨ret_bool (textL_not hlt hp).symm, rfl⟩
      · go_wp2_with (go_at_call 80; refine (textByte_any _ _ hb.1 hb.2).mono ?_; rintro e w' ⟨rfl, rfl⟩)
        go_round
        case rel => exact ⟨k + 1, by omega, by go_num, all_more hall hlt hp⟩
        case measure => simp [intOf]; omega
    · go_wp2
      go_ret
      exact ⟨ret_bool (textL_end hall (by omega)).symm, rfl⟩
end
section
open Go.RowKit
/-- a fact that no assumption opens: a walk's search unfolds 'Hid', and runs into a size of a slice -/
def Box (p : Prop) : Prop := True → p
theorem box {p : Prop} (h : p) : Box p := fun _ => h
theorem Box.out {p : Prop} (h : Box p) : p := h trivial
theorem IndexByte_any (s : ByteArray) (c : Int) (w : World) :
    Calls Tryz.prog 129 #[.string s, .int .u8 c] w fun e w' => e = .returned (.int .i64 (Lib.indexByte s.data.toList c.toNat.toUInt8)) ∧ w = w' := by
  go_enter Tryz.func129, Tryz.ntmps129
  go_wp2
  rw [run_callFunc_extern Tryz.func137 (by kernel_rfl) (by kernel_rfl) (by kernel_rfl) (e := Extern.BytealgIndexByte.indexByte) (by kernel_rfl), Lib.run_indexByteString]
  simp only [Result.andThen]
  rw [Oper.upon_value]
  go_wp2
  go_ret
  exact ⟨rfl, rfl⟩
theorem Index1_any (s : ByteArray) (c : UInt8) (w : World) :
    Calls Tryz.prog 116 #[.string s, .string ⟨#[c]⟩] w fun e w' => e = .returned (.int .i64 (Lib.indexByte s.data.toList c)) ∧ w = w' := by
  go_enter Tryz.func116, Tryz.ntmps116
  go_wp2_with (go_at_call 129; refine (IndexByte_any _ _ _).mono ?_; rintro e w' ⟨rfl, rfl⟩)
  · have h : ([c] == s.toList) = true := by assumption
    go_ret
    refine ⟨ret_int ?_, rfl⟩
    have e : s.data.toList = [c] := by rw [← toList_data]; exact (beq_iff_eq.1 h).symm
    rw [e]
    simp [Lib.indexByte]
  · go_ret
    exact ⟨rfl, rfl⟩
theorem below_drewN (w : World) (n : Nat) : Below w.heap.size w (w.drewN n) := ⟨rfl, rfl, rfl, Nat.le_refl _, fun _ _ => rfl⟩
def cutV (c : UInt8) (l : List UInt8) : Value := .tuple #[.string (bs (cut1 c l)), .string (bs (cut2 c l)), .bool (cutB c l)]
theorem sCut_any (s : ByteArray) (c : UInt8) (w : World) (hs : s.size ≤ maxLen) :
    Calls Tryz.prog 98 #[.string s, .string ⟨#[c]⟩] w fun e w' => e = .returned (cutV c s.data.toList) ∧ Below w.heap.size w w' := by
  unfold maxLen at hs
  have hz : s.data.toList.length = s.size := by simp
  have hge := Lib.indexByte_ge s.data.toList c
  by_cases h : Lib.indexByte s.data.toList c = -1
  · have H := Lib.hid (cut_no h)
    have H2 := Lib.hid h
    clear h hge hz
    go_enter Tryz.func98, Tryz.ntmps98
    go_wp2_with fail
    refine (Index1_any _ _ _).mono ?_; rintro e w1 ⟨rfl, rfl⟩; rw [H2.out]
    go_wp2
    go_ret3
    exact ⟨by unfold cutV; rw [H.out.1, H.out.2.1, H.out.2.2]; rfl, Below.refl _ _⟩
  · obtain ⟨k, hk⟩ : ∃ k : Nat, Lib.indexByte s.data.toList c = k := ⟨(Lib.indexByte s.data.toList c).toNat, by omega⟩
    have H := Lib.hid (cut_at hk)
    have H2 := Lib.hid hk
    have hlt : k < s.size := by have := H.out.1; omega
    clear h hge hz hk
    go_enter Tryz.func98, Tryz.ntmps98
    go_wp2_with fail
    refine (Index1_any _ _ _).mono ?_; rintro e w1 ⟨rfl, rfl⟩; rw [H2.out]
    go_wp2
    go_quiet (fail)
    go_wp2
    go_ret3
    refine ⟨?_, below_drewN _ _⟩
    unfold cutV
    rw [H.out.2.1, H.out.2.2.1, H.out.2.2.2]
    show Ending.returned (.tuple #[.string (s.extract 0 k), .string (s.extract (k + 1) s.size), .bool true]) = _
    rw [ext_bs, ext_bs, List.drop_zero, List.take_of_length_le (i := s.size) (by simp)]
theorem Cut_any (s : ByteArray) (c : UInt8) (w : World) (hs : s.size ≤ maxLen) :
    Calls Tryz.prog 81 #[.string s, .string ⟨#[c]⟩] w fun e w' => e = .returned (cutV c s.data.toList) ∧ Below w.heap.size w w' := by
  have HS := Lib.hid hs
  clear hs
  go_enter Tryz.func81, Tryz.ntmps81
  go_wp2_with fail
  refine (sCut_any _ _ _ HS.out).mono ?_; rintro e w1 ⟨rfl, hb⟩; unfold cutV
  go_wp2
  go_ret3
  exact ⟨rfl, hb⟩
theorem rIndex_any (s : ByteArray) (c : Int) (d : UInt8) (f : Nat) (w : World) (hs : s.size ≤ maxLen) (hf : f ≤ s.size) (hc : c = (d.toNat : Int)) :
    Calls Tryz.prog 51 #[.string s, .int .u8 c, .int .i64 f] w fun e w' => e = .returned (.int .i64 (idxF s.data.toList d f)) ∧ w = w' := by
  unfold maxLen at hs
  have HC := Lib.hid hc
  clear hc
  go_enter Tryz.func51, Tryz.ntmps51
  go_wp2
  go_loop [7] (fun i => ∃ k : Nat, k ≤ s.size ∧ i = .int .i64 k ∧ idxF s.data.toList d f = idxF s.data.toList d k) (fun i => s.size - (intOf i).toNat)
  case atStart => exact ⟨f, hf, rfl, rfl⟩
  case round =>
    obtain ⟨k, hk, rfl, hrest⟩ := hrel
    have HR := Lib.hid hrest
    clear hrest
    by_cases hlt : k < s.size
    · rcases hp : ((s[k].toNat : Int) == c) with _ | _
      · have hne : s.data.toList[k]'(by simpa using hlt) ≠ d := by
          intro e
          have : s[k] = d := e
          rw [this, HC.out] at hp; simp at hp
        have HM := Lib.hid (idxF_miss (by simpa using hlt) hne)
        clear hne
        go_wp2
        go_round
        case rel => exact ⟨k + 1, by omega, by go_num, by rw [HR.out, HM.out]⟩
        case measure => simp [intOf]; omega
      · have heq : s.data.toList[k]'(by simpa using hlt) = d := by
          have h1 := eqb_t hp
          rw [HC.out] at h1
          have h2 : s[k].toNat = d.toNat := by omega
          exact UInt8.toNat_inj.mp h2
        have HM := Lib.hid (idxF_hit (by simpa using hlt) heq)
        clear heq
        go_wp2
        go_ret
        exact ⟨ret_int (by rw [HR.out, HM.out]), rfl⟩
    · go_wp2
      go_ret
      exact ⟨ret_int (by rw [HR.out, idxF_end (by simp; omega)]), rfl⟩
end
section
open Go.RowKit
def bv (c : UInt8) : Value := .int .u8 (c.toNat : Int)
/-- Block g holds the bytes l from its head on, and none of these cells is frozen. -/
def Bys (w : World) (g : Nat) (l : List UInt8) : Prop := g < w.heap.size ∧ ∀ j, j < l.length → w.cell? ⟨g, j, none⟩ = some (bv (l.getD j 0)) ∧ w.frozen? ⟨g, j, none⟩ = false
theorem getD_get (l : List UInt8) (j : Nat) (hj : j < l.length) : l.getD j 0 = l[j] := by simp [List.getD_eq_getElem?_getD, hj]
theorem bv_oneCell (l : List UInt8) : ∀ u ∈ l.map bv, u.oneCell' = true := by
  intro u hu; obtain ⟨c, _, rfl⟩ := List.mem_map.mp hu; rfl
theorem Bys.lt {w : World} {g : Nat} {l : List UInt8} (h : Bys w g l) : g < w.heap.size := h.1
theorem Bys.cell {w : World} {g : Nat} {l : List UInt8} (h : Bys w g l) {j : Nat} (hj : j < l.length) : w.cell? ⟨g, j, none⟩ = some (bv (l.getD j 0)) := (h.2 j hj).1
theorem Bys.frozen {w : World} {g : Nat} {l : List UInt8} (h : Bys w g l) {j : Nat} (hj : j < l.length) : w.frozen? ⟨g, j, none⟩ = false := (h.2 j hj).2
theorem Bys.set {w : World} {g : Nat} {l : List UInt8} (h : Bys w g l) {k : Nat} (hk : k < l.length) (c : UInt8) : Bys (w.setCell ⟨g, k, none⟩ (bv c)) g (l.set k c) := by
  refine ⟨by simpa using h.1, fun j hj => ?_⟩
  rw [List.length_set] at hj
  refine ⟨?_, by rw [World.frozen?_setCell]; exact (h.2 j hj).2⟩
  by_cases e : k = j
  · subst e
    rw [World.cell?_setCell_same (h := (h.2 k hk).1)]
    simp [hk]
  · rw [World.cell?_setCell_other (h := fun h2 => e (by injection h2)), (h.2 j hj).1]
    simp [List.getD_eq_getElem?_getD, List.getElem?_set_ne e]
theorem Bys.new (w : World) (C : Array Value) (t : TypeId) (l : List UInt8) (lo hi : Nat) (hfr : l.length ≤ lo) (hC : ∀ j, j < l.length → C[j]? = some (bv (l.getD j 0))) : Bys (w.alloc (.cells C t (lo, hi))) w.heap.size l :=
  ⟨by simp, fun j hj => ⟨by rw [World.cell?_alloc_mark]; exact hC j hj, by rw [World.frozen?_alloc_mark]; simp; omega⟩⟩
theorem Bys.drew {w : World} {g : Nat} {l : List UInt8} (h : Bys w g l) : Bys w.drew g l := h
/-- 'string(b)' of such a block -/
theorem Bys.str {P : Program} {w : World} {g : Nat} {l : List UInt8} (h : Bys w g l) (src dst e : TypeId) (n cap : Nat) (hn : n = l.length) (hs : P.underlying src = some (.slice e)) (he : P.underlying e = some (.int .u8)) (hd : P.underlying dst = some .string) :
    (convert src dst (.slice (some ⟨g, 0, none⟩) n cap)).run P w = .ok (.string ⟨l.toArray⟩) w := by
  subst hn
  refine run_convert_bytes_back w src dst e ⟨g, 0, none⟩ cap l hs he hd fun j hj => ?_
  have := h.cell hj
  rw [getD_get l j hj] at this
  have ea : (⟨g, 0, none⟩ : Addr).add j = ⟨g, j, none⟩ := by unfold Addr.add; split <;> simp_all
  rw [ea]; exact this
theorem bv_low (c : UInt8) : bv (lowB c) = .int .u8 (lowI c.toNat) := by
  have h := c.toNat_lt
  have e : (lowB c).toNat = (lowI c.toNat).toNat := by
    unfold lowB; rw [UInt8.toNat_ofNat']; apply Nat.mod_eq_of_lt; unfold lowI; split <;> omega
  unfold bv; rw [e]
  congr 1
  unfold lowI; split <;> omega
theorem lowB_same {c : UInt8} (h : lowI c.toNat = c.toNat) : lowB c = c := by
  unfold lowB; rw [h]; simp
/-- a list of n bytes whose first k have been made the lowered ones of l -/
def half (r l : List UInt8) (k : Nat) : List UInt8 := lowL (l.take k) ++ r.drop k
theorem lowL_length (l : List UInt8) : (lowL l).length = l.length := by simp [lowL]
theorem half_length (r l : List UInt8) (k : Nat) (hr : r.length = l.length) : (half r l k).length = l.length := by
  simp only [half, List.length_append, lowL_length, List.length_take, List.length_drop]; omega
theorem half_zero (r l : List UInt8) : half r l 0 = r := by simp [half, lowL]
theorem half_get (r l : List UInt8) (k : Nat) (hr : r.length = l.length) (hk : k < l.length) : (half r l k).getD k 0 = r.getD k 0 := by
  have e : (lowL (l.take k)).length = k := by rw [lowL_length, List.length_take]; omega
  simp only [half, List.getD_eq_getElem?_getD]
  rw [List.getElem?_append_right (by omega), e, Nat.sub_self, List.getElem?_drop]; rfl
theorem half_step (r l : List UInt8) (k : Nat) (hr : r.length = l.length) (hk : k < l.length) (c : UInt8) (hc : l[k] = c) : (half r l k).set k (lowB c) = half r l (k + 1) := by
  subst hc
  have e : (lowL (l.take k)).length = k := by rw [lowL_length, List.length_take]; omega
  simp only [half]
  rw [List.set_append_right _ _ (by omega), e, Nat.sub_self, List.drop_eq_getElem_cons (i := k) (by omega), List.set_cons_zero, List.take_succ_eq_append_getElem hk]
  simp only [lowL, lowB, List.map_append, List.map_cons, List.map_nil, List.append_assoc, List.cons_append, List.nil_append]
theorem half_end (r l : List UInt8) (k : Nat) (hr : r.length = l.length) (hk : l.length ≤ k) : half r l k = lowL l := by
  simp only [half]; rw [List.take_of_length_le hk, List.drop_of_length_le (by omega), List.append_nil]
end
section
open Go.RowKit
theorem info_u8 : (Tryz.prog.info? 5).map (fun i => (i.zero, i.size, i.bytes)) = some (some (.int .u8 0), 1, 1) := by kernel_rfl
theorem data_at (s : ByteArray) (k : Nat) (h : k < s.size) : s.data.toList.getD k 0 = s[k] := by
  rw [getD_get _ _ (by simpa using h)]; rfl
theorem size_list (s : ByteArray) : s.data.toList.length = s.size := by simp
def Own (w : World) (B : Nat) (v : Value) (l : List UInt8) : Prop := w.ownsRow B 5 1 v l.length (l.map bv)
section
variable {w w' : World} {B : Nat} {v : Value} {l : List UInt8}
theorem Own.nil (w : World) (B : Nat) : Own w B (.slice none 0 0) [] := World.ownsRow_nil _ _ _ _
theorem Own.alloc (h : Own w B v l) (o : Obj) : Own (w.alloc o) B v l := World.ownsRow.alloc h o
theorem Own.drew (h : Own w B v l) : Own w.drew B v l := h
theorem Own.block (h : Own w B v l) : ∀ k, v.ownBlock = some k → B ≤ k := by
  intro k hk
  rcases h.2 with ⟨rfl, _⟩ | ⟨g, cap, cur, rfl, hb, _⟩
  · simp [Value.ownBlock] at hk
  · simp [Value.ownBlock] at hk; omega
/-- 'string(v)' -/
theorem Own.str (h : Own w B v l) : (convert 104 9 v).run Tryz.prog w = .ok (.string ⟨l.toArray⟩) w := by
  rcases h.2 with ⟨rfl, hn⟩ | ⟨g, cap, cur, rfl, hb, hh, hnc, hcm, hcs, htake⟩
  · have : l = [] := by simpa using hn
    subst this
    rw [run_convert_bytes_string w 104 9 5 none 0 0 Tryz.underlying104 Tryz.underlying5 Tryz.underlying9]
    rfl
  · refine run_convert_bytes_back w 104 9 5 ⟨g, 0, none⟩ cap l Tryz.underlying104 Tryz.underlying5 Tryz.underlying9 fun j hj => ?_
    have ea : (⟨g, 0, none⟩ : Addr).add j = ⟨g, j, none⟩ := by unfold Addr.add; split <;> simp_all
    rw [ea, World.ownsRow.cellAt h j (by omega)]
    simp [hj, bv]
end
end
end Go.Proofs.YtjabcfabenobiaaGreat.Asc
