/- Merged texts: GrpCon GrpCut GrpMine VarPars VarRef9 KeyMine KeyMine2. -/
import Derived.Test.YtcnohcbhnldglaaM03
import Derived.Test.YtcnohcbhnldglaaM04
import Derived.Test.YtcnohcbhnldglaaM06
import Derived.Test.YtcnohcbhnldglaaM07
import Derived.Test.YtcnohcbhnldglaaM08
import Derived.Test.YtcnohcbhnldglaaM09
import Derived.Test.YtcnohcbhnldglaaM10
import Derived.Test.YtcnohcbhnldglaaM11
import Derived.Test.YtcnohcbhnldglaaM12
import Derived.Test.YtcnohcbhnldglaaM13
set_option linter.unusedVariables false
set_option linter.unusedSimpArgs false
set_option maxRecDepth 100000
namespace Go.Proofs.Ytcnohcbhnldglaa.Asc
section
open Go.RowKit
theorem byte_eqs {c d : UInt8} : ((c.toNat : Int) == (d.toNat : Int)) = !(c != d) := by
  have := byte_neq (c := c) (d := d)
  rw [← this]
  show _ = !(!((c.toNat : Int) == (d.toNat : Int)))
  rw [Bool.not_not]
theorem mayStand_any (c : UInt8) (w : World) :
    Calls Try.prog 39 #[.int .u8 (c.toNat : Int)] w fun e w' => e = .returned (.bool (plainC c)) ∧ w = w' := by
  have e32 : (c != 32) = !((c.toNat : Int) == 32) := by rw [show ((32 : Int)) = ((32 : UInt8).toNat : Int) from rfl, byte_eqs, Bool.not_not]
  have e9 : (c != 9) = !((c.toNat : Int) == 9) := by rw [show ((9 : Int)) = ((9 : UInt8).toNat : Int) from rfl, byte_eqs, Bool.not_not]
  have e40 : (c != 40) = !((c.toNat : Int) == 40) := by rw [show ((40 : Int)) = ((40 : UInt8).toNat : Int) from rfl, byte_eqs, Bool.not_not]
  have e41 : (c != 41) = !((c.toNat : Int) == 41) := by rw [show ((41 : Int)) = ((41 : UInt8).toNat : Int) from rfl, byte_eqs, Bool.not_not]
  have e44 : (c != 44) = !((c.toNat : Int) == 44) := by rw [show ((44 : Int)) = ((44 : UInt8).toNat : Int) from rfl, byte_eqs, Bool.not_not]
  have e34 : (c != 34) = !((c.toNat : Int) == 34) := by rw [show ((34 : Int)) = ((34 : UInt8).toNat : Int) from rfl, byte_eqs, Bool.not_not]
  obtain ⟨q, hq⟩ : ∃ q, plainC c = q := ⟨_, rfl⟩
  have HQ := box hq
  unfold plainC at hq
  rw [e32, e9, e40, e41, e44, e34] at hq
  rw [HQ.out]
  clear e32 e9 e40 e41 e44 e34
  rcases t32 : ((c.toNat : Int) == 32) with _ | _
  rotate_left
  · obtain rfl : q = false := by rw [← hq, t32]; simp
    clear hq
    go_enter Try.func39, Try.ntmps39
    go_wp2
    go_ret
    exact ⟨rfl, rfl⟩
  rcases t9 : ((c.toNat : Int) == 9) with _ | _
  rotate_left
  · obtain rfl : q = false := by rw [← hq, t32, t9]; simp
    clear hq
    go_enter Try.func39, Try.ntmps39
    go_wp2
    go_ret
    exact ⟨rfl, rfl⟩
  rcases t40 : ((c.toNat : Int) == 40) with _ | _
  rotate_left
  · obtain rfl : q = false := by rw [← hq, t32, t9, t40]; simp
    clear hq
    go_enter Try.func39, Try.ntmps39
    go_wp2
    go_ret
    exact ⟨rfl, rfl⟩
  rcases t41 : ((c.toNat : Int) == 41) with _ | _
  rotate_left
  · obtain rfl : q = false := by rw [← hq, t32, t9, t40, t41]; simp
    clear hq
    go_enter Try.func39, Try.ntmps39
    go_wp2
    go_ret
    exact ⟨rfl, rfl⟩
  rcases t44 : ((c.toNat : Int) == 44) with _ | _
  rotate_left
  · obtain rfl : q = false := by rw [← hq, t32, t9, t40, t41, t44]; simp
    clear hq
    go_enter Try.func39, Try.ntmps39
    go_wp2
    go_ret
    exact ⟨rfl, rfl⟩
  rcases t34 : ((c.toNat : Int) == 34) with _ | _
  rotate_left
  · obtain rfl : q = false := by rw [← hq, t32, t9, t40, t41, t44, t34]; simp
    clear hq
    go_enter Try.func39, Try.ntmps39
    go_wp2
    go_ret
    exact ⟨rfl, rfl⟩
  obtain rfl : q = true := by rw [← hq, t32, t9, t40, t41, t44, t34]; rfl
  clear hq
  go_enter Try.func39, Try.ntmps39
  go_wp2
  go_ret
  exact ⟨rfl, rfl⟩
theorem mayStand_is {c : UInt8} {b : Bool} {w : World} (h : Box (plainC c = b)) :
    Calls Try.prog 39 #[.int .u8 (c.toNat : Int)] w fun e w' => e = .returned (.bool b) ∧ w = w' :=
  (mayStand_any c w).mono fun e w' ⟨h1, h2⟩ => ⟨by rw [h1, h.out], h2⟩
/-- one or more bytes, all permitted -/
def conL (P : UInt8 → Bool) (l : List UInt8) : Bool := l.all P && !l.isEmpty
theorem con_more {P : UInt8 → Bool} {s : ByteArray} {k : Nat} (h : (s.data.toList.take k).all P = true) (hk : k < s.size) (hp : P s[k] = true) : (s.data.toList.take (k + 1)).all P = true := by
  rw [take_snoc s k hk, List.all_append, h]; simpa using hp
theorem con_no {P : UInt8 → Bool} {s : ByteArray} {k : Nat} (hk : k < s.size) (hp : P s[k] = false) : conL P s.data.toList = false := by
  have hl : k < s.data.toList.length := by simpa using hk
  have : s.data.toList.all P = false := by rw [List.all_eq_false]; exact ⟨s.data.toList[k], List.getElem_mem hl, by rw [show s.data.toList[k] = s[k] from rfl, hp]; simp⟩
  unfold conL; rw [this]; rfl
theorem con_end {P : UInt8 → Bool} {s : ByteArray} (h : (s.data.toList.take s.size).all P = true) : conL P s.data.toList = !(s.toList.isEmpty) := by
  rw [List.take_of_length_le (by simp)] at h
  unfold conL; rw [h, toList_data]; rfl
theorem conRead_any (s : ByteArray) (z : Bool) (w : World) (hs : s.size ≤ 65000) (hz : Box (conL plainC s.data.toList = z)) :
    Calls Try.prog 38 #[.string s, .func (.func 39) #[] #[]] w fun e w' => e = .returned (.bool z) ∧ w = w' := by
  go_enter Try.func38, Try.ntmps38
  go_wp2
  go_loop [8] (fun i => ∃ k : Nat, i = .int .i64 k ∧ k ≤ s.size ∧ Box ((s.data.toList.take k).all plainC = true)) (fun i => s.size - (intOf i).toNat)
  case atStart => exact ⟨0, rfl, Nat.zero_le _, box rfl⟩
  case round =>
    obtain ⟨k, rfl, hk, HA⟩ := hrel
    by_cases hlt : k < s.size
    · have hki : (k : Int) < (s.size : Int) := by omega
      obtain ⟨c, hc⟩ : ∃ c, s[k] = c := ⟨_, rfl⟩
      obtain ⟨q, hq⟩ : ∃ q, plainC c = q := ⟨_, rfl⟩
      have HQ := box hq
      cases q with
      | true =>
        have HN := box (con_more HA.out hlt (by rw [hc, hq]))
        clear hq
        go_wp2_with fail
        refine (mayStand_is HQ).mono ?_; rintro e w1 ⟨rfl, rfl⟩
        go_wp2
        go_round
        case rel => exact ⟨k + 1, by go_num, hlt, HN⟩
        case measure => simp [intOf]; omega
      | false =>
        have HN : Box (z = false) := box (by rw [← hz.out]; exact con_no hlt (by rw [hc, hq]))
        clear hq
        go_wp2_with fail
        refine (mayStand_is HQ).mono ?_; rintro e w1 ⟨rfl, rfl⟩
        go_wp2
        go_ret
        exact ⟨by rw [HN.out]; rfl, rfl⟩
    · have hki : ¬ (k : Int) < (s.size : Int) := by omega
      obtain rfl : k = s.size := by omega
      have HN : Box (z = !(s.toList.isEmpty)) := box (by rw [← hz.out]; exact con_end HA.out)
      go_wp2
      go_ret
      exact ⟨by rw [HN.out]; rfl, rfl⟩
theorem Unq15_none {s : ByteArray} {w : World} (hs : s.size ≤ 4294967296) (h : Box (unqL s.data.toList = none)) :
    Calls Try.prog 40 #[.string s] w fun e w' => e = .returned (.tuple #[.string ⟨#[]⟩, .bool false]) ∧ Below w.heap.size w w' :=
  (Unquote_any s w hs).mono fun e w' ⟨h1, h2⟩ => ⟨by rw [h1, h.out]; rfl, h2⟩
theorem Unq15_some {s x : ByteArray} {u : List UInt8} {w : World} (hs : s.size ≤ 4294967296) (h : Box (unqL s.data.toList = some u ∧ bs u = x)) :
    Calls Try.prog 40 #[.string s] w fun e w' => e = .returned (.tuple #[.string x, .bool true]) ∧ Below w.heap.size w w' :=
  (Unquote_any s w hs).mono fun e w' ⟨h1, h2⟩ => ⟨by rw [h1, h.out.1, ← h.out.2]; rfl, h2⟩
theorem read_con {l : List UInt8} (h : l ≠ []) : readV l = if conL plainC l = true then some l else unqL l := by
  unfold readV conL
  cases l with
  | nil => exact absurd rfl h
  | cons c r => simp
/-- the value that a piece stands for, in parts -/
def rdV (t : ByteArray) : Value := match readV t.data.toList with
  | some v => .tuple #[.string (bs v), .bool true]
  | none => .tuple #[.string ⟨#[]⟩, .bool false]
theorem parseVal_any (t : ByteArray) (v : Value) (w : World) (ht : t.size ≤ 65000) (hne : Box (t.data.toList ≠ [])) (hv : Box (rdV t = v)) :
    Calls Try.prog 25 #[.string t] w fun e w' => e = .returned v ∧ Below w.heap.size w w' := by
  obtain ⟨q, hq⟩ : ∃ q, conL plainC t.data.toList = q := ⟨_, rfl⟩
  have HQ := box hq
  have ht4 : t.size ≤ 4294967296 := by omega
  cases q with
  | true =>
    have HV : Box (v = .tuple #[.string t, .bool true]) := box (by
      rw [← hv.out]; unfold rdV; rw [read_con hne.out, hq, if_pos rfl]; show Value.tuple #[.string (bs t.data.toList), .bool true] = _; rw [← bs_of t])
    clear hq
    go_enter Try.func25, Try.ntmps25
    go_wp2_with fail
    refine (conRead_any t true _ ht HQ).mono ?_; rintro e w1 ⟨rfl, rfl⟩
    go_wp2
    go_ret2
    exact ⟨by rw [HV.out]; rfl, Below.refl _ _⟩
  | false =>
    cases hu : unqL t.data.toList with
    | none =>
      have HV : Box (v = .tuple #[.string ⟨#[]⟩, .bool false]) := box (by
        rw [← hv.out]; unfold rdV; rw [read_con hne.out, hq, if_neg (by simp), hu])
      have HU := box hu
      clear hq hu
      go_enter Try.func25, Try.ntmps25
      go_wp2_with fail
      refine (conRead_any t false _ ht HQ).mono ?_; rintro e w1 ⟨rfl, rfl⟩
      go_wp2_with fail
      refine (Unq15_none ht4 HU).mono ?_; rintro e w2 ⟨rfl, hb2⟩
      have B2 := box hb2
      clear hb2
      go_wp2
      go_ret2
      exact ⟨by rw [HV.out]; rfl, B2.out⟩
    | some u =>
      have HV : Box (v = .tuple #[.string (bs u), .bool true]) := box (by
        rw [← hv.out]; unfold rdV; rw [read_con hne.out, hq, if_neg (by simp), hu])
      obtain ⟨x, hx⟩ : ∃ x, bs u = x := ⟨_, rfl⟩
      have HU : Box (unqL t.data.toList = some u ∧ bs u = x) := box ⟨hu, hx⟩
      rw [hx] at HV
      clear hq hu hx
      go_enter Try.func25, Try.ntmps25
      go_wp2_with fail
      refine (conRead_any t false _ ht HQ).mono ?_; rintro e w1 ⟨rfl, rfl⟩
      go_wp2_with fail
      refine (Unq15_some ht4 HU).mono ?_; rintro e w2 ⟨rfl, hb2⟩
      have B2 := box hb2
      clear hb2
      go_wp2
      go_ret2
      exact ⟨by rw [HV.out]; rfl, B2.out⟩
end
section
open Go.RowKit
theorem one_pre {s : ByteArray} {c : UInt8} (h : 1 ≤ s.size) : ((s.extract 0 1).toList == [c]) = decide (s.data.toList.head? = some c) := by
  have h2 : (s.extract 0 1).toList = s.data.toList.take 1 := by
    rw [toList_data, ByteArray.data_extract, Array.toList_extract, List.extract_eq_take_drop, List.drop_zero]
  rw [h2]
  have hl : s.data.toList.length = s.size := by simp
  cases e : s.data.toList with
  | nil => rw [e] at hl; simp only [List.length_nil] at hl; omega
  | cons d r =>
    rw [List.take_succ_cons, List.take_zero, List.head?_cons]
    by_cases q : d = c
    · subst q; simp
    · rw [decide_eq_false (by simpa using q)]; exact beq_eq_false_iff_ne.2 (by simpa using q)
theorem one_suf {s : ByteArray} {c : UInt8} (h : 1 ≤ s.size) : ((s.extract (s.size - 1) s.size).toList == [c]) = decide (s.data.toList.getLast? = some c) := by
  have hl : s.data.toList.length = s.size := by simp
  have h2 : (s.extract (s.size - 1) s.size).toList = s.data.toList.drop (s.size - 1) := by
    rw [toList_data, ByteArray.data_extract, Array.toList_extract, List.extract_eq_take_drop, List.take_of_length_le (by rw [List.length_drop, hl]; omega)]
  rw [h2, ← hl]
  have hne : s.data.toList ≠ [] := fun e => by rw [e] at hl; simp at hl; omega
  have e2 : s.data.toList.drop (s.data.toList.length - 1) = [s.data.toList.getLast hne] := by
    obtain ⟨a, d, ha⟩ : ∃ a d, s.data.toList = a ++ [d] := ⟨_, _, (List.dropLast_concat_getLast hne).symm⟩
    have hg : s.data.toList.getLast hne = d := by simp [ha]
    rw [hg, ha]; simp
  rw [e2, List.getLast?_eq_some_getLast hne]
  by_cases q : s.data.toList.getLast hne = c
  · rw [q]; simp
  · rw [decide_eq_false (by simpa using q)]; exact beq_eq_false_iff_ne.2 (by simpa using q)
theorem hasPre40_is {s : ByteArray} {b : Bool} {w : World} (hs : s.size ≤ 65000) (h : Box (decide (s.data.toList.head? = some 40) = b)) :
    Calls Try.prog 54 #[.string s, .string ⟨#[40]⟩] w fun e w' => e = .returned (.bool b) ∧ w = w' := by
  by_cases h1 : 1 ≤ s.size
  · have hi : (1 : Int) ≤ (s.size : Int) := by omega
    have ht := one_pre (c := 40) h1
    rw [h.out] at ht
    go_enter Try.func54, Try.ntmps54
    go_wp2
    go_ret
    exact ⟨rfl, rfl⟩
  · have hi : ¬ (1 : Int) ≤ (s.size : Int) := by omega
    have hb : b = false := by
      rw [← h.out]
      have : s.data.toList = [] := List.eq_nil_of_length_eq_zero (by have : s.data.toList.length = s.size := by simp
                                                                     omega)
      rw [this]; rfl
    subst hb
    go_enter Try.func54, Try.ntmps54
    go_wp2
    go_ret
    exact ⟨rfl, rfl⟩
theorem hasSuf41_is {s : ByteArray} {b : Bool} {w : World} (hs : s.size ≤ 65000) (h : Box (decide (s.data.toList.getLast? = some 41) = b)) :
    Calls Try.prog 55 #[.string s, .string ⟨#[41]⟩] w fun e w' => e = .returned (.bool b) ∧ w = w' := by
  by_cases h1 : 1 ≤ s.size
  · have hi : (1 : Int) ≤ (s.size : Int) := by omega
    have ht := one_suf (c := 41) h1
    obtain ⟨p, hp⟩ : ∃ p, s.size - 1 = p := ⟨_, rfl⟩
    have hpi : (s.size : Int) - 1 = (p : Int) := by omega
    have hps : (p : Int) ≤ (s.size : Int) := by omega
    rw [h.out, hp] at ht
    clear hp h1
    go_enter Try.func55, Try.ntmps55
    go_wp2
    go_ret
    exact ⟨rfl, rfl⟩
  · have hi : ¬ (1 : Int) ≤ (s.size : Int) := by omega
    have hb : b = false := by
      rw [← h.out]
      have : s.data.toList = [] := List.eq_nil_of_length_eq_zero (by have : s.data.toList.length = s.size := by simp
                                                                     omega)
      rw [this]; rfl
    subst hb
    go_enter Try.func55, Try.ntmps55
    go_wp2
    go_ret
    exact ⟨rfl, rfl⟩
/-- behind the '(' at the beginning -/
theorem scutPre40_yes {s : ByteArray} {w : World} (hs : s.size ≤ 65000) (h : Box (s.data.toList.head? = some 40)) :
    Calls Try.prog 35 #[.string s, .string ⟨#[40]⟩] w fun e w' => e = .returned (.tuple #[.string (s.extract 1 s.size), .bool true]) ∧ w = w' := by
  have HB : Box (decide (s.data.toList.head? = some 40) = true) := box (decide_eq_true h.out)
  have h1 : (1 : Int) ≤ (s.size : Int) := by
    have hl : s.data.toList.length = s.size := by simp
    have hh := h.out
    have : s.data.toList ≠ [] := fun e => by rw [e] at hh; cases hh
    have := List.length_pos_iff.2 this
    omega
  go_enter Try.func35, Try.ntmps35
  go_wp2_with fail
  refine (hasPre40_is hs HB).mono ?_; rintro e w1 ⟨rfl, rfl⟩
  go_wp2
  go_ret2
  exact ⟨rfl, rfl⟩
theorem cutPre40_yes {s : ByteArray} {w : World} (hs : s.size ≤ 65000) (h : Box (s.data.toList.head? = some 40)) :
    Calls Try.prog 22 #[.string s, .string ⟨#[40]⟩] w fun e w' => e = .returned (.tuple #[.string (s.extract 1 s.size), .bool true]) ∧ w = w' := by
  go_enter Try.func22, Try.ntmps22
  go_wp2_with fail
  refine (scutPre40_yes hs h).mono ?_; rintro e w1 ⟨rfl, rfl⟩
  go_wp2
  go_ret2
  exact ⟨rfl, rfl⟩
theorem scutPre40_no {s : ByteArray} {w : World} (hs : s.size ≤ 65000) (h : Box (s.data.toList.head? ≠ some 40)) :
    Calls Try.prog 35 #[.string s, .string ⟨#[40]⟩] w fun e w' => e = .returned (.tuple #[.string s, .bool false]) ∧ w = w' := by
  have HB : Box (decide (s.data.toList.head? = some 40) = false) := box (decide_eq_false h.out)
  go_enter Try.func35, Try.ntmps35
  go_wp2_with fail
  refine (hasPre40_is hs HB).mono ?_; rintro e w1 ⟨rfl, rfl⟩
  go_wp2
  go_ret2
  exact ⟨rfl, rfl⟩
theorem cutPre40_no {s : ByteArray} {w : World} (hs : s.size ≤ 65000) (h : Box (s.data.toList.head? ≠ some 40)) :
    Calls Try.prog 22 #[.string s, .string ⟨#[40]⟩] w fun e w' => e = .returned (.tuple #[.string s, .bool false]) ∧ w = w' := by
  go_enter Try.func22, Try.ntmps22
  go_wp2_with fail
  refine (scutPre40_no hs h).mono ?_; rintro e w1 ⟨rfl, rfl⟩
  go_wp2
  go_ret2
  exact ⟨rfl, rfl⟩
/-- ahead of the ')' at the end -/
theorem scutSuf41_yes {s : ByteArray} {w : World} (hs : s.size ≤ 65000) (h : Box (s.data.toList.getLast? = some 41)) :
    Calls Try.prog 36 #[.string s, .string ⟨#[41]⟩] w fun e w' => e = .returned (.tuple #[.string (s.extract 0 (s.size - 1)), .bool true]) ∧ w = w' := by
  have HB : Box (decide (s.data.toList.getLast? = some 41) = true) := box (decide_eq_true h.out)
  have h1 : (1 : Int) ≤ (s.size : Int) := by
    have hl : s.data.toList.length = s.size := by simp
    have hh := h.out
    have : s.data.toList ≠ [] := fun e => by rw [e] at hh; cases hh
    have := List.length_pos_iff.2 this
    omega
  obtain ⟨p, hp⟩ : ∃ p, s.size - 1 = p := ⟨_, rfl⟩
  have hpi : (s.size : Int) - 1 = (p : Int) := by omega
  have hps : (p : Int) ≤ (s.size : Int) := by omega
  have hpn : p ≤ s.size := by omega
  rw [hp]
  clear hp
  go_enter Try.func36, Try.ntmps36
  go_wp2_with fail
  refine (hasSuf41_is hs HB).mono ?_; rintro e w1 ⟨rfl, rfl⟩
  go_wp2
  go_ret2
  exact ⟨rfl, rfl⟩
theorem cutSuf41_yes {s : ByteArray} {w : World} (hs : s.size ≤ 65000) (h : Box (s.data.toList.getLast? = some 41)) :
    Calls Try.prog 23 #[.string s, .string ⟨#[41]⟩] w fun e w' => e = .returned (.tuple #[.string (s.extract 0 (s.size - 1)), .bool true]) ∧ w = w' := by
  go_enter Try.func23, Try.ntmps23
  go_wp2_with fail
  refine (scutSuf41_yes hs h).mono ?_; rintro e w1 ⟨rfl, rfl⟩
  go_wp2
  go_ret2
  exact ⟨rfl, rfl⟩
theorem scutSuf41_no {s : ByteArray} {w : World} (hs : s.size ≤ 65000) (h : Box (s.data.toList.getLast? ≠ some 41)) :
    Calls Try.prog 36 #[.string s, .string ⟨#[41]⟩] w fun e w' => e = .returned (.tuple #[.string s, .bool false]) ∧ w = w' := by
  have HB : Box (decide (s.data.toList.getLast? = some 41) = false) := box (decide_eq_false h.out)
  go_enter Try.func36, Try.ntmps36
  go_wp2_with fail
  refine (hasSuf41_is hs HB).mono ?_; rintro e w1 ⟨rfl, rfl⟩
  go_wp2
  go_ret2
  exact ⟨rfl, rfl⟩
theorem cutSuf41_no {s : ByteArray} {w : World} (hs : s.size ≤ 65000) (h : Box (s.data.toList.getLast? ≠ some 41)) :
    Calls Try.prog 23 #[.string s, .string ⟨#[41]⟩] w fun e w' => e = .returned (.tuple #[.string s, .bool false]) ∧ w = w' := by
  go_enter Try.func23, Try.ntmps23
  go_wp2_with fail
  refine (scutSuf41_no hs h).mono ?_; rintro e w1 ⟨rfl, rfl⟩
  go_wp2
  go_ret2
  exact ⟨rfl, rfl⟩
end
section
open Go.RowKit
def GpRel (T : Option (List (List UInt8))) (n : Nat) (w : World) (v r m : Value) (wr : World) : Prop :=
  ∃ (M : List (List UInt8)) (t : ByteArray) (b : Bool), r = .string t ∧ m = .bool b ∧ t.size ≤ n ∧ M.length + t.size + (if b then 1 else 0) ≤ n + 1 ∧ T = grpF (moreL 32 b t.data.toList) M ∧ OwnS wr w.heap.size v (M.map bs) ∧ Below w.heap.size w wr
def msr15 (m r : Value) : Nat := match m, r with | .bool true, .string t => t.size + 1 | _, _ => 0
theorem pc_eat {sep : UInt8} {l p r : List UInt8} {m : Bool} (h : pcL sep l = (p, r, m)) : p.length + r.length + (if m then 1 else 0) = l.length := by
  have key : ∀ (l : List UInt8) (s : Nat) (acc : List UInt8), (pcF sep s l acc).1.length + (pcF sep s l acc).2.1.length + (if (pcF sep s l acc).2.2 then 1 else 0) = acc.length + l.length := by
    intro l
    induction l with
    | nil => intro s acc; simp [pcF]
    | cons c r ih =>
      intro s acc
      rw [pcF_cons]
      split
      · simp; omega
      · rw [ih]; simp; omega
  have := key l 0 []
  rw [show pcF sep 0 l [] = (p, r, m) from h] at this
  simpa using this
set_option maxHeartbeats 4000000 in
theorem grpLoop_any (s m : ByteArray) (T : Option (List (List UInt8))) (w : World) (hs : s.size ≤ 65000) (hm : m.size ≤ 65000) (h1 : Box (s.data.toList.head? = some 40)) (h2 : Box ((s.extract 1 s.size).data.toList.getLast? = some 41)) (hx : Box ((s.extract 1 s.size).extract 0 ((s.extract 1 s.size).size - 1) = m)) (hT : Box (valsL m.data.toList [] = T)) :
    Calls Try.prog 12 #[.string s] w fun e w' => valW w w' T e := by
  obtain ⟨m1, hm1⟩ : ∃ m1, s.extract 1 s.size = m1 := ⟨_, rfl⟩
  have hz1 : m1.size ≤ 65000 := by rw [← hm1]; simp; omega
  have HM1 := box hm1
  rw [hm1] at h2 hx
  clear hm1
  have HT : Box (T = grpF (cutL 32 m.data.toList) []) := box (by rw [← hT.out]; exact vals_grp _ _ _ (Nat.le_refl _))
  go_enter Try.func12, Try.ntmps12
  go_wp2_with fail
  refine (cutPre40_yes hs h1).mono ?_; rintro e w1 ⟨rfl, rfl⟩
  rw [HM1.out]
  go_wp2_with fail
  refine (cutSuf41_yes hz1 h2).mono ?_; rintro e w1 ⟨rfl, rfl⟩
  rw [hx.out]
  go_wp2_with fail
  go_loopw [7, 8, 9] (fun v r b wr => GpRel T m.size w v r b wr) (fun _ r b _ => msr15 b r)
  case atStart => exact ⟨[], m, true, rfl, rfl, Nat.le_refl _, by simp, HT.out, OwnS.nil _ _, Below.refl _ _⟩
  case round =>
    obtain ⟨M, t, b, rfl, rfl, hts, hML, hTM, hOM, hbel⟩ := hrel
    have O0 := box hOM
    have BL := box hbel
    have HM := box hTM
    have hBw := hbel.size
    obtain ⟨av, cv, rfl, _, _⟩ := hOM.ss
    rw [List.length_map] at O0 ⊢
    clear hOM hbel hTM
    rcases b with _ | _
    · have HF : Box (T = some M) := box (by rw [HM.out]; rfl)
      clear hML
      go_wp2
      go_ret2
      exact ⟨_, by rw [HF.out]; rfl, by rw [HF.out]; exact O0.out, BL.out, fun h => by rw [HF.out] at h; cases h⟩
    · have ht6 : t.size ≤ 65000 := by omega
      obtain ⟨p, r, b2, hp⟩ : ∃ p r b2, pcL 32 t.data.toList = (p, r, b2) := ⟨_, _, _, rfl⟩
      have HV : Box (pcV 32 t.data.toList = .tuple #[.string (bs p), .string (bs r), .bool b2]) := box (by unfold pcV; rw [hp])
      have hcut : T = grpF (p :: moreL 32 b2 r) M := by
        have := cut_piece5 t.data.toList
        rw [hp] at this
        rw [HM.out]
        show grpF (cutL 32 t.data.toList) M = _
        rw [this]
      have hsz := pc_eat hp
      rw [show t.data.toList.length = t.size from by simp] at hsz
      have hrz : (bs r).size ≤ m.size := by rw [bs_size]; omega
      have hms : Box (msr15 (.bool b2) (.string (bs r)) < t.size + 1) := box (by
        cases b2
        · exact Nat.zero_lt_succ _
        · show (bs r).size + 1 < t.size + 1
          rw [bs_size]; simp at hsz; omega)
      have hpz : (bs p).size ≤ 65000 := by rw [bs_size]; omega
      have HCut := box hcut
      have HML := box hML
      have HSZ := box hsz
      have h32 : ((32 : UInt8).toNat : Int) = 32 := rfl
      clear hp hcut HM hML hsz
      by_cases hpe : p = []
      · have hpe2 : (bs p).toList.isEmpty = true := by rw [toList_bs, hpe]; rfl
        have HN : Box (T = grpF (moreL 32 b2 (bs r).data.toList) M) := box (by rw [HCut.out, hpe, grpF_skip, bs_toList])
        have HN2 : Box (M.length + (bs r).size + (if b2 then 1 else 0) ≤ m.size + 1) := box (by
          have h1 := HML.out
          have h2 := HSZ.out
          rw [bs_size]
          simp only [if_true] at h1
          omega)
        have hpb : (bs p) = ⟨#[]⟩ := by rw [hpe]; rfl
        rw [hpb] at HV
        clear HCut hpe hpe2 hpb hpz HML HSZ
        go_wp2_with fail
        refine (pieceCut_any t 32 _ ht6).mono ?_; rintro e w1 ⟨rfl, hb1⟩
        rw [HV.out]
        have O1 := box (own_below O0.out hb1)
        have B1 := box (BL.out.trans (hb1.mono hBw))
        clear hb1
        go_wp2
        go_roundw
        case rel => exact ⟨M, bs r, b2, rfl, rfl, hrz, HN2.out, HN.out, O1.out, B1.out⟩
        case measure => exact hms.out
      · have hpe2 : ((bs p).toList == []) = false := by
          rw [toList_bs]; exact beq_eq_false_iff_ne.2 hpe
        have hpe3 : (bs p).toList.isEmpty = false := by
          rw [toList_bs]
          cases p with
          | nil => exact absurd rfl hpe
          | cons c r => rfl
        have HNE : Box ((bs p).data.toList ≠ []) := box (by rw [bs_toList]; exact hpe)
        cases hu : readV p with
        | none =>
          have HF : Box (T = none) := box (by rw [HCut.out, grpF_bad hpe hu])
          have HR : Box (rdV (bs p) = .tuple #[.string ⟨#[]⟩, .bool false]) := box (by unfold rdV; rw [bs_toList, hu])
          clear HCut hpe hu HML HSZ
          go_wp2_with fail
          refine (pieceCut_any t 32 _ ht6).mono ?_; rintro e w1 ⟨rfl, hb1⟩
          rw [HV.out]
          have B1 := box (BL.out.trans (hb1.mono hBw))
          clear hb1
          go_wp2_with fail
          refine (parseVal_any (bs p) _ _ hpz HNE HR).mono ?_; rintro e w2 ⟨rfl, hb2⟩
          have B2 := box (B1.out.trans (hb2.mono B1.out.size))
          clear hb2
          go_wp2
          go_ret2
          exact valW_none HF B2.out
        | some u =>
          obtain ⟨x, hx⟩ : ∃ x, bs u = x := ⟨_, rfl⟩
          have HN : Box (T = grpF (moreL 32 b2 (bs r).data.toList) (M ++ [u])) := box (by rw [HCut.out, grpF_more hpe hu, bs_toList])
          have HR : Box (rdV (bs p) = .tuple #[.string x, .bool true]) := box (by unfold rdV; rw [bs_toList, hu, ← hx])
          have HX : Box ((M ++ [u]).map bs = M.map bs ++ [x]) := box (by rw [List.map_append, List.map_cons, List.map_nil, hx])
          have hm6 : Box ((M.map bs).length ≤ 65536) := box (by rw [List.length_map]; have := HML.out; omega)
          have HN2 : Box ((M ++ [u]).length + (bs r).size + (if b2 then 1 else 0) ≤ m.size + 1) := box (by
            have h1 := HML.out
            have h2 := HSZ.out
            have h3 : 1 ≤ p.length := by
              cases p with
              | nil => exact absurd rfl hpe
              | cons c r => simp
            rw [bs_size, List.length_append]
            simp only [if_true] at h1
            simp only [List.length_cons, List.length_nil]
            omega)
          clear HCut hpe hu hx HML HSZ
          go_wp2_with fail
          refine (pieceCut_any t 32 _ ht6).mono ?_; rintro e w1 ⟨rfl, hb1⟩
          rw [HV.out]
          have O1 := box (own_below O0.out hb1)
          have B1 := box (BL.out.trans (hb1.mono hBw))
          clear hb1
          go_wp2_with fail
          refine (parseVal_any (bs p) _ _ hpz HNE HR).mono ?_; rintro e w2 ⟨rfl, hb2⟩
          have O2 := box (own_below O1.out hb2)
          have B2 := box (B1.out.trans (hb2.mono B1.out.size))
          have hBw2 := B2.out.size
          clear hb2
          go_wp2_with (at_builtin; refine wpList_append_str _ rfl (.tmp 46) (.tmp 48) rfl w.heap.size _ (M.map bs) rfl ?a1 _ _ rfl x ?b1 ?c1 ?d1 ?_)
          case a1 => exact own_below O2.out (below_new _ _)
          case b1 => go_simp
          case c1 => exact hm6.out
          case d1 => simp; omega
          intro v3 w3 hO3 hb3
          have O3 := box hO3
          have B3 := box ((B2.out.alloc hBw2 _).trans hb3)
          clear hO3 hb3
          go_wp2
          go_roundw
          case rel => exact ⟨M ++ [u], bs r, b2, rfl, rfl, hrz, HN2.out, HN.out, by rw [HX.out]; exact O3.out, B3.out⟩
          case measure => exact hms.out
theorem grp_head {s : ByteArray} (h : s.data.toList.head? ≠ some 40) : valuesL s.data.toList = none := by
  unfold valuesL; rw [if_pos (.inr (.inl h))]
theorem grp_ext {s : ByteArray} : (s.extract 1 s.size).data.toList = s.data.toList.drop 1 := by
  rw [ByteArray.data_extract, Array.toList_extract, List.extract_eq_take_drop, List.take_of_length_le (by simp)]
theorem grp_tail {s : ByteArray} (h : (s.data.toList.drop 1).getLast? ≠ some 41) : valuesL s.data.toList = none := by
  unfold valuesL
  by_cases h2 : s.data.toList.length < 2
  · rw [if_pos (.inl h2)]
  · refine if_pos (.inr (.inr (fun e => h ?_)))
    rw [List.getLast?_drop, if_neg (by omega)]; exact e
theorem grp_in {s m : ByteArray} (h1 : s.data.toList.head? = some 40) (h2 : (s.data.toList.drop 1).getLast? = some 41) (hm : (s.extract 1 s.size).extract 0 ((s.extract 1 s.size).size - 1) = m) : valuesL s.data.toList = valsL m.data.toList [] := by
  have hl : ¬ s.data.toList.length < 2 := fun e => by rw [List.getLast?_drop, if_pos (by omega)] at h2; cases h2
  have hlast : s.data.toList.getLast? = some 41 := by
    rw [List.getLast?_drop, if_neg (by omega)] at h2; exact h2
  unfold valuesL
  rw [if_neg]
  · rw [← hm, ByteArray.data_extract, Array.toList_extract, List.extract_eq_take_drop, grp_ext, List.drop_zero, List.dropLast_eq_take]
    congr 2
    have : (s.extract 1 s.size).size = s.size - 1 := by simp
    rw [this, List.length_drop]; simp
  · rintro (q | q | q)
    · exact hl q
    · exact q h1
    · exact q hlast
theorem grpParse_any (s : ByteArray) (w : World) (hs : s.size ≤ 65000) :
    Calls Try.prog 12 #[.string s] w fun e w' => valW w w' (valuesL s.data.toList) e := by
  by_cases h1 : s.data.toList.head? = some 40
  · by_cases h2 : (s.data.toList.drop 1).getLast? = some 41
    · obtain ⟨m, hm⟩ : ∃ m, (s.extract 1 s.size).extract 0 ((s.extract 1 s.size).size - 1) = m := ⟨_, rfl⟩
      rw [grp_in h1 h2 hm]
      have hmz : m.size ≤ 65000 := by rw [← hm]; simp; omega
      exact grpLoop_any s m _ w hs hmz (box h1) (box (by rw [grp_ext]; exact h2)) (box hm) (box rfl)
    · have HV : Box (valuesL s.data.toList = none) := box (grp_tail h2)
      obtain ⟨m1, hm1⟩ : ∃ m1, s.extract 1 s.size = m1 := ⟨_, rfl⟩
      have hz1 : m1.size ≤ 65000 := by rw [← hm1]; simp; omega
      have H2 : Box (m1.data.toList.getLast? ≠ some 41) := box (by rw [← hm1, grp_ext]; exact h2)
      have H1 := box h1
      have HM1 := box hm1
      generalize valuesL s.data.toList = T at HV
      clear h1 h2 hm1
      go_enter Try.func12, Try.ntmps12
      go_wp2_with fail
      refine (cutPre40_yes hs H1).mono ?_; rintro e w1 ⟨rfl, rfl⟩
      rw [HM1.out]
      go_wp2_with fail
      refine (cutSuf41_no hz1 H2).mono ?_; rintro e w1 ⟨rfl, rfl⟩
      go_wp2
      go_ret2
      exact valW_none HV (Below.refl _ _)
  · have HV : Box (valuesL s.data.toList = none) := box (grp_head h1)
    have H1 := box h1
    generalize valuesL s.data.toList = T at HV
    clear h1
    by_cases h2 : s.data.toList.getLast? = some 41
    · have H2 := box h2
      obtain ⟨m1, hm1⟩ : ∃ m1, s.extract 0 (s.size - 1) = m1 := ⟨_, rfl⟩
      have HM1 := box hm1
      clear h2 hm1
      go_enter Try.func12, Try.ntmps12
      go_wp2_with fail
      refine (cutPre40_no hs H1).mono ?_; rintro e w1 ⟨rfl, rfl⟩
      go_wp2_with fail
      refine (cutSuf41_yes hs H2).mono ?_; rintro e w1 ⟨rfl, rfl⟩
      rw [HM1.out]
      go_wp2
      go_ret2
      exact valW_none HV (Below.refl _ _)
    · have H2 : Box (s.data.toList.getLast? ≠ some 41) := box h2
      clear h2
      go_enter Try.func12, Try.ntmps12
      go_wp2_with fail
      refine (cutPre40_no hs H1).mono ?_; rintro e w1 ⟨rfl, rfl⟩
      go_wp2_with fail
      refine (cutSuf41_no hs H2).mono ?_; rintro e w1 ⟨rfl, rfl⟩
      go_wp2
      go_ret2
      exact valW_none HV (Below.refl _ _)
end
section
open Go.RowKit
theorem grpParse_none {s : ByteArray} {w : World} (hs : s.size ≤ 65000) (h : Box (valuesL s.data.toList = none)) :
    Calls Try.prog 12 #[.string s] w fun e w' => e = .returned (.tuple #[.slice none 0 0, .bool false]) ∧ Below w.heap.size w w' := by
  refine (grpParse_any s w hs).mono ?_
  rintro e w' ⟨v, rfl, hO, hb, hn⟩
  rw [hn h.out, h.out]
  exact ⟨rfl, hb⟩
theorem grpParse_some {s : ByteArray} {X : List (List UInt8)} {w : World} (hs : s.size ≤ 65000) (h : Box (valuesL s.data.toList = some X)) :
    Calls Try.prog 12 #[.string s] w fun e w' => ∃ a c, e = .returned (.tuple #[.slice a X.length c, .bool true]) ∧ OwnS w' w.heap.size (.slice a X.length c) (X.map bs) ∧ Below w.heap.size w w' := by
  refine (grpParse_any s w hs).mono ?_
  rintro e w' ⟨v, rfl, hO, hb, _⟩
  rw [h.out] at hO ⊢
  obtain ⟨a, c, rfl, _, _⟩ := OwnS.ss (L := X.map bs) hO
  rw [List.length_map] at hO ⊢
  exact ⟨a, c, rfl, hO, hb⟩
end
section
open Go.RowKit
def fitX (L : List AX) : Prop := ∀ i (hi : i < L.length), fitA L[i]
theorem fitX.small {L : List AX} (h : fitX L) : smallA L := fun i hi => by
  obtain ⟨h1, h2, h3⟩ := h i hi
  exact ⟨by omega, by omega, fun j hj => by have := h3 _ (List.getElem_mem hj); omega⟩
end
section
open Go.RowKit
def atKy (out : List KY) (i : Nat) : KY := out.getD i []
theorem atKy_is {out : List KY} {i : Nat} (h : i < out.length) : atKy out i = out[i] := by unfold atKy; simp [h]
/-- the first place of a key among the first m -/
def placeK (out : List KY) (k : KY) (m : Nat) : Option Nat := (List.range m).find? fun j => decide (atKy out j = k)
theorem placeK_more (out : List KY) (k : KY) (m : Nat) (h : placeK out k m = none) : placeK out k (m + 1) = if atKy out m = k then some m else none := by
  unfold placeK at h ⊢
  rw [List.range_succ, List.find?_append, h]
  simp only [Option.none_or]
  rw [List.find?_cons]
  by_cases e : atKy out m = k
  · rw [decide_eq_true e, if_pos e]
  · rw [decide_eq_false e, if_neg e]; rfl
theorem placeK_first {out : List KY} {k : KY} {m n : Nat} (h : placeK out k m = none) (hm : m < n) (he : atKy out m = k) : placeK out k n = some m := by
  unfold placeK at h ⊢
  rw [List.find?_range_eq_some]
  refine ⟨decide_eq_true he, List.mem_range.2 hm, fun j hj => ?_⟩
  have := List.find?_eq_none.1 h j (List.mem_range.2 hj)
  simpa using this
theorem placeK_in (out : List KY) (k : KY) : (placeK out k out.length).isSome = inKy out k := by
  unfold placeK inKy
  rw [Bool.eq_iff_iff, List.find?_isSome, List.any_eq_true]
  constructor
  · rintro ⟨j, hj, h⟩
    have hl := List.mem_range.1 hj
    rw [atKy_is hl] at h
    exact ⟨_, List.getElem_mem hl, h⟩
  · rintro ⟨y, hy, h⟩
    obtain ⟨j, hj, rfl⟩ := List.mem_iff_getElem.1 hy
    exact ⟨j, List.mem_range.2 hj, by rw [atKy_is hj]; exact h⟩
def contV (g : Nat) : Value := .func (.func 45) #[] #[.pointer (some ⟨g, 0, none⟩)]
theorem contC_any (g : Nat) (k y : KY) (q : Bool) (pk b : Option Addr) (ck c : Nat) (w : World) (hk : k.length ≤ 65536) (hy : y.length ≤ 65536) (h0 : w.cell? ⟨g, 0, none⟩ = some (.slice pk k.length ck)) (hK : Box (Ss w pk k)) (hY : Box (Ss w b y)) (hq : Box (decide (y = k) = q)) :
    Calls Try.prog 45 #[.slice b y.length c, .pointer (some ⟨g, 0, none⟩)] w fun e w' => e = .returned (.bool q) ∧ Below w.heap.size w w' := by
  have hlt := cell_lt h0
  simp only at hlt
  go_enter Try.func45, Try.ntmps45
  go_wp2_with fail
  refine (slEqual_is hy hk hY.out hK.out hq).mono ?_; rintro e w1 ⟨rfl, hb1⟩
  go_wp2
  go_ret
  exact ⟨rfl, hb1⟩
set_option maxHeartbeats 1000000 in
theorem contIdx_any (a : Option Addr) (cap : Nat) (out : List KY) (g : Nat) (k : KY) (pk : Option Addr) (ck : Nat) (w : World) (ho : out.length ≤ 65536) (zo : Box (smallK out)) (hk : k.length ≤ 65536) (h0 : Box (w.cell? ⟨g, 0, none⟩ = some (.slice pk k.length ck))) (hK : Box (Ss w pk k)) (hO : Box (Kss w a out)) :
    Calls Try.prog 58 #[.slice a out.length cap, contV g] w fun e w' => e = .returned (.int .i64 (hitI (placeK out k out.length))) ∧ Below w.heap.size w w' := by
  unfold contV
  go_enter Try.func58, Try.ntmps58
  go_wp2
  go_loopw [8] (fun i wr => ∃ m : Nat, m ≤ out.length ∧ i = .int .i64 m ∧ placeK out k m = none ∧ Below w.heap.size w wr) (fun i _ => out.length - (intOf i).toNat)
  case atStart => exact ⟨0, Nat.zero_le _, rfl, rfl, Below.refl _ _⟩
  case round =>
    obtain ⟨m, hm, rfl, hall, hbel⟩ := hrel
    have HA := box hall
    have BL := box hbel
    clear hall hbel
    by_cases hlt : m < out.length
    · obtain ⟨q, off, v, rfl, c0, b, c, rfl, hss, _⟩ := (hO.out.below BL.out) m hlt
      have hy := (zo.out _ (List.getElem_mem hlt)).1
      have hat := atKy_is hlt
      obtain ⟨y, hyy⟩ : ∃ y, out[m] = y := ⟨_, rfl⟩
      rw [hyy] at c0 hss hy hat
      have hy6 : y.length ≤ 65536 := by omega
      have SY := box hss
      have SK := box (hK.out.below BL.out)
      have C0 := (BL.out.cell (cell_lt h0.out)).trans h0.out
      obtain ⟨u, hu⟩ : ∃ u, decide (y = k) = u := ⟨_, rfl⟩
      have HU := box hu
      clear hss hy hyy
      cases u with
      | true =>
        have HX : Box (placeK out k out.length = some m) := box (placeK_first HA.out hlt (by rw [hat]; exact of_decide_eq_true hu))
        clear hu hat
        go_wp2_with fail
        refine (contC_any g k y true pk b ck c _ hk hy6 C0 SK SY HU).mono ?_; rintro e w1 ⟨rfl, hb1⟩
        have B1 := box (BL.out.trans (hb1.mono BL.out.size))
        clear hb1 C0
        go_wp2
        go_ret
        exact ⟨by rw [HX.out]; rfl, B1.out⟩
      | false =>
        have HX : Box (placeK out k (m + 1) = none) := box (by rw [placeK_more _ _ _ HA.out, if_neg (by rw [hat]; exact of_decide_eq_false hu)])
        clear hu hat
        go_wp2_with fail
        refine (contC_any g k y false pk b ck c _ hk hy6 C0 SK SY HU).mono ?_; rintro e w1 ⟨rfl, hb1⟩
        have B1 := box (BL.out.trans (hb1.mono BL.out.size))
        clear hb1 C0
        go_wp2
        go_roundw
        case rel => exact ⟨m + 1, by omega, by go_num, HX.out, B1.out⟩
        case measure => simp [intOf]; omega
    · have e : m = out.length := by omega
      have HX : Box (placeK out k out.length = none) := box (by rw [← e]; exact HA.out)
      clear e
      go_wp2
      go_ret
      exact ⟨by rw [HX.out]; rfl, BL.out⟩
theorem contFn_any (a : Option Addr) (cap : Nat) (out : List KY) (g : Nat) (k : KY) (q : Bool) (pk : Option Addr) (ck : Nat) (w : World) (ho : out.length ≤ 65536) (zo : Box (smallK out)) (hk : k.length ≤ 65536) (h0 : Box (w.cell? ⟨g, 0, none⟩ = some (.slice pk k.length ck))) (hK : Box (Ss w pk k)) (hO : Box (Kss w a out)) (hq : Box (inKy out k = q)) :
    Calls Try.prog 44 #[.slice a out.length cap, contV g] w fun e w' => e = .returned (.bool q) ∧ Below w.heap.size w w' := by
  obtain ⟨z, hz⟩ : ∃ z, placeK out k out.length = z := ⟨_, rfl⟩
  have HZ := box hz
  have HQ : Box (z.isSome = q) := box (by rw [← hz, placeK_in, hq.out])
  clear hz
  go_enter Try.func44, Try.ntmps44
  go_wp2_with fail
  refine (contIdx_any a cap out g k pk ck _ ho zo hk h0 hK hO).mono ?_; rintro e w1 ⟨rfl, hb1⟩
  rw [HZ.out]
  have B1 := box hb1
  clear hb1
  cases z with
  | none =>
    simp only [hitI]
    go_wp2
    go_ret
    exact ⟨by rw [← HQ.out]; rfl, B1.out⟩
  | some j =>
    simp only [hitI]
    have hj : decide ((0 : Int) ≤ (j : Int)) = true := decide_eq_true (by omega)
    go_wp2
    go_ret
    exact ⟨by rw [← HQ.out]; simp, B1.out⟩
theorem contains_is {a pk : Option Addr} {cap ck : Nat} {out : List KY} {k : KY} {q : Bool} {w : World} (ho : out.length ≤ 65536) (zo : Box (smallK out)) (hk : k.length ≤ 65536) (hO : Kss w a out) (hK : Ss w pk k) (hq : Box (inKy out k = q)) :
    Calls Try.prog 27 #[.slice a out.length cap, .slice pk k.length ck] w fun e w' => e = .returned (.bool q) ∧ Below w.heap.size w w' := by
  have hmf : ∀ (fn : Fn) (first cap : Array Value) (w : World), (Instr.makeFunc fn first cap).run Try.prog w = .ok (.func fn first cap) w := fun _ _ _ _ => rfl
  have B0 := box (below_new w (.cells #[.slice pk k.length ck] 31))
  have C0 : Box ((w.alloc (.cells #[.slice pk k.length ck] 31)).cell? ⟨w.heap.size, 0, none⟩ = some (.slice pk k.length ck)) := box (by rw [World.cell?_alloc_at _ _ _ _ rfl]; rfl)
  have SO := box (hO.below B0.out)
  have SK := box (hK.below B0.out)
  clear hO hK
  go_enter Try.func27, Try.ntmps27
  go_wp2_with fail
  refine (contFn_any a cap out w.heap.size k q pk ck _ ho zo hk C0 SK SO hq).mono ?_; rintro e w1 ⟨rfl, hb1⟩
  have B1 := box (B0.out.trans (hb1.mono B0.out.size))
  clear hb1
  go_wp2
  go_ret
  exact ⟨rfl, B1.out⟩
theorem vSame16_is {n x y : ByteArray} {q : Bool} {w : World} (hn : n.size ≤ 65000) (hx : x.size ≤ 65000) (hy : y.size ≤ 65000) (h : Box (sameV n x y = q)) :
    Calls Try.prog 43 #[.string n, .string x, .string y] w fun e w' => e = .returned (.bool q) ∧ Below w.heap.size w w' :=
  (mSame_any n x y w hn hx hy).mono fun e w' ⟨h1, h2⟩ => ⟨by rw [h1, h.out], h2⟩
def kofV (ga gv gi : Nat) : Value := .func (.func 42) #[] #[.pointer (some ⟨ga, 0, none⟩), .pointer (some ⟨gv, 0, none⟩), .pointer (some ⟨gi, 0, none⟩)]
/-- what the function value has captured -/
def KofAt (w : World) (ga gv gi : Nat) (n : ByteArray) (x : ByteArray) (m : Nat) (q : Nat) (o : Nat) (len c : Nat) : Prop :=
  w.cell? ⟨ga, 0, none⟩ = some (.string n) ∧ w.cell? ⟨gv, 0, none⟩ = some (.slice (some ⟨q, o, none⟩) len c) ∧ w.cell? ⟨gi, 0, none⟩ = some (.int .i64 (m : Int)) ∧ w.cell? ⟨q, o + m, none⟩ = some (.string x)
theorem KofAt.below {w w' : World} {ga gv gi m q o len c : Nat} {n x : ByteArray} (h : KofAt w ga gv gi n x m q o len c) (hb : Below w.heap.size w w') : KofAt w' ga gv gi n x m q o len c :=
  ⟨(hb.cell (cell_lt h.1)).trans h.1, (hb.cell (cell_lt h.2.1)).trans h.2.1, (hb.cell (cell_lt h.2.2.1)).trans h.2.2.1, (hb.cell (cell_lt h.2.2.2)).trans h.2.2.2⟩
set_option maxHeartbeats 1000000 in
theorem kofC_any (ga gv gi m q o len c : Nat) (n x y : ByteArray) (z : Bool) (w : World) (hn : n.size ≤ 65000) (hx : x.size ≤ 65000) (hy : y.size ≤ 65000) (hm : m < len) (hl : len ≤ 65536) (h : Box (KofAt w ga gv gi n x m q o len c)) (hz : Box (sameV n y x = z)) :
    Calls Try.prog 42 #[.string y, .pointer (some ⟨ga, 0, none⟩), .pointer (some ⟨gv, 0, none⟩), .pointer (some ⟨gi, 0, none⟩)] w fun e w' => e = .returned (.bool z) ∧ Below w.heap.size w w' := by
  have hm0 : (0 : Int) ≤ (m : Int) := by omega
  have hm1 : (m : Int) < (len : Int) := by omega
  obtain ⟨c0, c1, c2, c3⟩ := h.out
  go_enter Try.func42, Try.ntmps42
  go_wp2
  go_region_held3 (fun w' => w'.cell? ⟨ga, 0, none⟩ = some (.string n) ∧ w'.cell? ⟨gv, 0, none⟩ = some (.slice (some ⟨q, o, none⟩) len c) ∧ w'.cell? ⟨gi, 0, none⟩ = some (.int .i64 (m : Int)) ∧ w'.cell? ⟨q, o + m, none⟩ = some (.string x)) (first | exact ⟨(hb5.cell (cell_lt c0)).trans c0, (hb5.cell (cell_lt c1)).trans c1, (hb5.cell (cell_lt c2)).trans c2, (hb5.cell (cell_lt c3)).trans c3⟩ | exact ⟨c0, c1, c2, c3⟩) (first | (go_at_call 43; refine (vSame16_is hn hy hx hz).mono ?_; rintro e w5 ⟨rfl, hb5⟩))
  all_goals
    have B5 := box (Below.trans (show Below w.heap.size w w.drew from (Below.refl _ _).drew) hb5)
    clear hb5
    go_wp2
    go_ret
    exact ⟨rfl, B5.out⟩
end
section
open Go.RowKit
set_option maxHeartbeats 1000000 in
theorem kofIdx_any (a : Option Addr) (cap : Nat) (V : List ByteArray) (ga gv gi m q o len c : Nat) (n x : ByteArray) (w : World) (hl : V.length ≤ 65536) (hv : Box (∀ v ∈ V, v.size ≤ 65000)) (hn : n.size ≤ 65000) (hx : x.size ≤ 65000) (hm : m < len) (hlen : len ≤ 65536) (h : Box (KofAt w ga gv gi n x m q o len c)) (hF : Box (Ss w a V)) :
    Calls Try.prog 41 #[.slice a V.length cap, kofV ga gv gi] w fun e w' => e = .returned (.int .i64 (hitI (hitK (n, V) x V.length))) ∧ Below w.heap.size w w' := by
  unfold kofV
  go_enter Try.func41, Try.ntmps41
  go_wp2
  go_loopw [8] (fun i wr => ∃ j : Nat, j ≤ V.length ∧ i = .int .i64 j ∧ hitK (n, V) x j = none ∧ Below w.heap.size w wr) (fun i _ => V.length - (intOf i).toNat)
  case atStart => exact ⟨0, Nat.zero_le _, rfl, rfl, Below.refl _ _⟩
  case round =>
    obtain ⟨j, hj, rfl, hall, hbel⟩ := hrel
    have HA := box hall
    have BL := box hbel
    clear hall hbel
    by_cases hlt : j < V.length
    · obtain ⟨q2, off, rfl, c0⟩ := (hF.out.below BL.out) j hlt
      have hy := hv.out _ (List.getElem_mem hlt)
      have hat : atS V j = V[j] := atS_is hlt
      obtain ⟨y, hyy⟩ : ∃ y, V[j] = y := ⟨_, rfl⟩
      rw [hyy] at c0 hy hat
      have K1 := box (h.out.below BL.out)
      obtain ⟨u, hu⟩ : ∃ u, sameV n y x = u := ⟨_, rfl⟩
      have HU := box hu
      have hu2 : sameV (n, V).1 x (atS (n, V).2 j) = u := by
        show sameV n x (atS V j) = u
        rw [hat, sameV_symm, hu]
      cases u with
      | true =>
        have HX : Box (hitK (n, V) x V.length = some j) := box (hit_first (x := (n, V)) HA.out hlt hu2)
        clear hu hat hu2 hyy
        go_wp2_with fail
        refine (kofC_any ga gv gi m q o len c n x y true _ hn hx hy hm hlen K1 HU).mono ?_; rintro e w1 ⟨rfl, hb1⟩
        have B1 := box (BL.out.trans (hb1.mono BL.out.size))
        clear hb1
        go_wp2
        go_ret
        exact ⟨by rw [HX.out]; rfl, B1.out⟩
      | false =>
        have HX : Box (hitK (n, V) x (j + 1) = none) := box (by rw [hit_old hu2]; exact HA.out)
        clear hu hat hu2 hyy
        go_wp2_with fail
        refine (kofC_any ga gv gi m q o len c n x y false _ hn hx hy hm hlen K1 HU).mono ?_; rintro e w1 ⟨rfl, hb1⟩
        have B1 := box (BL.out.trans (hb1.mono BL.out.size))
        clear hb1
        go_wp2
        go_roundw
        case rel => exact ⟨j + 1, by omega, by go_num, HX.out, B1.out⟩
        case measure => simp [intOf]; omega
    · have e : j = V.length := by omega
      have HX : Box (hitK (n, V) x V.length = none) := box (by rw [← e]; exact HA.out)
      clear e
      go_wp2
      go_ret
      exact ⟨by rw [HX.out]; rfl, BL.out⟩
def kofW (w w' : World) (T : Option KY) (e : Ending) : Prop := ∃ v, e = .returned (.tuple #[v, .bool T.isSome]) ∧ OwnS w' w.heap.size v (T.getD []) ∧ Below w.heap.size w w'
theorem kofW_no {w w' : World} {T : Option KY} (h : Box (T = none)) (hb : Below w.heap.size w w') : kofW w w' T (.returned (.tuple #[.slice none 0 0, .bool false])) := by
  rw [h.out]; exact ⟨_, rfl, OwnS.nil _ _, hb⟩
def KoRel (X : List AX) (r : KY) (T : Option KY) (W : World) (v i : Value) (wr : World) : Prop :=
  ∃ (m : Nat) (acc : KY), i = .int .i64 m ∧ m ≤ X.length ∧ acc.length = m ∧ T = keyA (X.drop m) (r.drop m) acc ∧ OwnS wr W.heap.size v acc ∧ Below W.heap.size W wr
set_option maxHeartbeats 4000000 in
theorem mKeyOf_any (p : Option Addr) (cp : Nat) (X : List AX) (b : Option Addr) (c : Nat) (r : KY) (w : World) (hx : X.length ≤ 65536) (hr : r.length ≤ 65536) (zx : Box (smallA X)) (zr : Box (∀ v ∈ r, v.size ≤ 65000)) (hX : Box (Axs w p X)) (hR : Box (Ss w b r)) :
    Calls Try.prog 26 #[.slice p X.length cp, .slice b r.length c] w fun e w' => kofW w w' (keyA X r []) e := by
  obtain ⟨T, hT⟩ : ∃ T, keyA X r [] = T := ⟨_, rfl⟩
  rw [hT]
  have hmf : ∀ (fn : Fn) (first cap : Array Value) (w : World), (Instr.makeFunc fn first cap).run Try.prog w = .ok (.func fn first cap) w := fun _ _ _ _ => rfl
  have B0 := box (below_new w (.cells #[.slice b r.length c] 31))
  have C0 : Box ((w.alloc (.cells #[.slice b r.length c] 31)).cell? ⟨w.heap.size, 0, none⟩ = some (.slice b r.length c)) := box (by rw [World.cell?_alloc_at _ _ _ _ rfl]; rfl)
  have hs1 : (w.alloc (.cells #[.slice b r.length c] 31)).heap.size = w.heap.size + 1 := by simp
  by_cases hrl : r.length = X.length
  · have hrn : ((r.length : Int) != (X.length : Int)) = false := by simp [hrl]
    have HRL := box hrl
    have HT := box hT
    obtain ⟨W1, hW1⟩ : ∃ W1, w.alloc (.cells #[.slice b r.length c] 31) = W1 := ⟨_, rfl⟩
    have HW1 := box hW1
    rw [hW1] at B0 C0 hs1
    have XS := box (hX.out.below B0.out)
    have RS := box (hR.out.below B0.out)
    have HS1 := box hs1
    clear hT hrl hW1 hs1
    go_enter Try.func26, Try.ntmps26
    go_wp2
    rw [HW1.out]
    go_loopw [6, 17] (fun v i wr => KoRel X r T W1 v i wr) (fun _ i _ => X.length - (intOf i).toNat)
    case atStart => exact ⟨0, [], rfl, Nat.zero_le _, rfl, by rw [List.drop_zero, List.drop_zero]; exact HT.out.symm, OwnS.nil _ _, Below.refl _ _⟩
    case round =>
      obtain ⟨w5, rfl⟩ : ∃ w5, w5 = wr := ⟨_, rfl⟩
      obtain ⟨m, key, rfl, hm, hkl, hTm, hO, hbel⟩ := hrel
      have K0 := box hO
      have BK := box hbel
      have HTm := box hTm
      have HKL := box hkl
      have hk6 : key.length ≤ 65536 := by omega
      have hBk := hbel.size
      obtain ⟨ak, ck, rfl, hss, _⟩ := hO.ss
      clear hO hbel hTm hkl hss
      by_cases hmt : m < X.length
      · have hmi : (m : Int) < (X.length : Int) := by omega
        have hm0 : (0 : Int) ≤ (m : Int) := by omega
        have hmr : m < r.length := by rw [HRL.out]; exact hmt
        obtain ⟨g, off, vv, rfl, cN, cV, bv, cv2, rfl, hsv, _⟩ := (XS.out.below BK.out) m hmt
        obtain ⟨g2, off2, rfl, d2⟩ := (RS.out.below BK.out) m hmr
        have c0 := (BK.out.cell (cell_lt C0.out)).trans C0.out
        obtain ⟨y1, y2, y3⟩ := zx.out m hmt
        have hdX : X.drop m = X[m] :: X.drop (m + 1) := List.drop_eq_getElem_cons hmt
        have hdr : r.drop m = r[m] :: r.drop (m + 1) := List.drop_eq_getElem_cons hmr
        have hxz := zr.out _ (List.getElem_mem hmr)
        obtain ⟨⟨n, V⟩, hnV⟩ : ∃ x, X[m] = x := ⟨_, rfl⟩
        obtain ⟨x, hxr⟩ : ∃ x, r[m] = x := ⟨_, rfl⟩
        rw [hnV] at cN cV hsv y1 y2 hdX
        rw [hxr] at d2 hdr hxz
        simp only at cN cV hsv y1 y2
        have Y3 : Box (∀ v ∈ V, v.size ≤ 65000) := box (fun v hv => by
          obtain ⟨i, hi, rfl⟩ := List.mem_iff_getElem.1 hv
          have := y3 i (by rw [hnV]; exact hi)
          simpa [hnV] using this)
        have HNone3 : Box (hitK (n, V) x V.length = none → T = none) := box (fun h => by rw [HTm.out, hdX, hdr]; exact keyA_none (one_none (x := (n, V)) h))
        have HSome3 : Box (∀ z, hitK (n, V) x V.length = some z → T = keyA (X.drop (m + 1)) (r.drop (m + 1)) (key ++ [atS V z])) := box (fun z h => by rw [HTm.out, hdX, hdr]; exact keyA_some (one_some (x := (n, V)) h))
        obtain ⟨w6, hw6⟩ : ∃ w6, (w5.alloc (.cells #[.int .i64 (m : Int)] 3)).alloc (.cells #[.string n, .slice bv V.length cv2] 33) = w6 := ⟨_, rfl⟩
        have B6 : Box (Below w5.heap.size w5 w6) := box (by rw [← hw6]; exact (below_new w5 _).alloc (below_new w5 _).size _)
        have HW6 := box hw6
        have hsa : (w5.alloc (.cells #[.int .i64 (m : Int)] 3)).heap.size = w5.heap.size + 1 := by simp
        have KA : Box (KofAt w6 (w5.heap.size + 1) w.heap.size w5.heap.size n x m g2 off2 r.length c) := box (by
          refine ⟨?_, (B6.out.cell (cell_lt c0)).trans c0, ?_, (B6.out.cell (cell_lt d2)).trans d2⟩
          · rw [← hw6, World.cell?_alloc_at (hn := hsa.symm)]; rfl
          · rw [← hw6, (below_new _ _).cell (by simp), World.cell?_alloc_at (hn := rfl)]; rfl)
        have CV : Box (w6.cell? ⟨w5.heap.size + 1, 1, none⟩ = some (.slice bv V.length cv2)) := box (by rw [← hw6, World.cell?_alloc_at (hn := hsa.symm)]; rfl)
        have SV := box (hsv.below B6.out)
        have hr65 : r.length ≤ 65536 := hr
        obtain ⟨z0, hz⟩ : ∃ z, hitK (n, V) x V.length = z := ⟨_, rfl⟩
        have HZ := box hz
        clear hdX hdr hxr hsv y3 hw6 hz
        go_wp2_with fail
        rw [HW6.out]
        refine (kofIdx_any bv cv2 V (w5.heap.size + 1) w.heap.size w5.heap.size m g2 off2 r.length c n x _ y2 Y3 y1 hxz hmr hr65 KA SV).mono ?_; rintro e w7 ⟨rfl, hb7⟩
        rw [HZ.out]
        have B7 := box (B6.out.trans (hb7.mono B6.out.size))
        have cV7 := (hb7.cell (cell_lt CV.out)).trans CV.out
        have SV7 := box (SV.out.below hb7)
        have BW7 := box (BK.out.trans (B7.out.mono hBk))
        have hBw7 := BW7.out.size
        clear hb7 cN cV d2 c0
        cases z0 with
        | none =>
          have HB := box (HNone3.out HZ.out)
          simp only [hitI]
          go_wp2
          go_ret2
          exact kofW_no HB (B0.out.trans (BW7.out.mono B0.out.size))
        | some z =>
          have HN := box (HSome3.out z HZ.out)
          obtain ⟨hzl, _⟩ := hitK_lt HZ.out
          have hzi : (z : Int) < (V.length : Int) := by omega
          have hz0 : (0 : Int) ≤ (z : Int) := by omega
          have hzn : ¬ (z : Int) < 0 := by omega
          obtain ⟨g3, off3, rfl, d3⟩ := SV7.out z hzl
          have hat : atS V z = V[z] := atS_is hzl
          obtain ⟨y, hy⟩ : ∃ y, V[z] = y := ⟨_, rfl⟩
          rw [hy] at d3 hat
          rw [hat] at HN
          have HL2 : Box ((key ++ [y]).length = m + 1) := box (by rw [List.length_append, HKL.out]; rfl)
          have K7 := box (own_below K0.out B7.out)
          have hlen : Box (key.length ≤ 65536) := box hk6
          clear hat hy
          simp only [hitI]
          go_wp2_with (at_builtin; refine wpList_append_str _ rfl (.tmp 28) (.tmp 34) rfl W1.heap.size _ key rfl ?a1 _ _ rfl y ?b1 ?c1 ?d1 ?_)
          case a1 => exact own_below K7.out (below_new _ _)
          case d1 => first | omega | (simp; omega)
          intro v8 w8 hO8 hb8
          have O8 := box hO8
          have B8 := box ((BW7.out.alloc hBw7 _).trans hb8)
          clear hO8 hb8
          go_wp2
          go_roundw
          case rel => exact ⟨m + 1, key ++ [y], by go_num, by omega, HL2.out, HN.out, O8.out, B8.out⟩
          case measure => simp [intOf]; omega
      · have hmi : ¬ (m : Int) < (X.length : Int) := by omega
        obtain rfl : m = X.length := by omega
        have HKey : Box (T = some key) := box (by
          rw [HTm.out, List.drop_of_length_le (Nat.le_refl _), List.drop_of_length_le (by rw [HRL.out]; exact Nat.le_refl _)]; rfl)
        go_wp2
        go_ret2
        rw [HKey.out]
        exact ⟨_, rfl, Go.Joins.ownsRow_le K0.out (by rw [HS1.out]; omega), B0.out.trans (BK.out.mono B0.out.size)⟩
  · have hrn : ((r.length : Int) != (X.length : Int)) = true := by simp; omega
    have HN : Box (T = none) := box (by rw [← hT]; exact keyA_len X r [] hrl)
    clear hT hrl
    go_enter Try.func26, Try.ntmps26
    go_wp2
    go_ret2
    exact kofW_no HN B0.out
end
end Go.Proofs.Ytcnohcbhnldglaa.Asc
