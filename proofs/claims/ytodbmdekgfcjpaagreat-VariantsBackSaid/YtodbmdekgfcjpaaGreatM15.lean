/- Merged texts: GrpCon GrpCut BldJoin BldJsp. -/
import Derived.Test.YtodbmdekgfcjpaaGreatM08
import Derived.Test.YtodbmdekgfcjpaaGreatM12
import Derived.Test.YtodbmdekgfcjpaaGreatM14
set_option linter.unusedVariables false
set_option linter.unusedSimpArgs false
set_option maxRecDepth 100000
namespace Go.Proofs.YtodbmdekgfcjpaaGreat.Asc
section
open Go.RowKit
theorem byte_eqs {c d : UInt8} : ((c.toNat : Int) == (d.toNat : Int)) = !(c != d) := by
  have := byte_neq (c := c) (d := d)
  rw [← this]
  show _ = !(!((c.toNat : Int) == (d.toNat : Int)))
  rw [Bool.not_not]
theorem mayStand_any (c : UInt8) (w : World) :
    Calls Tryz.prog 106 #[.int .u8 (c.toNat : Int)] w fun e w' => e = .returned (.bool (plainC c)) ∧ w = w' := by
  have e32 : (c != 32) = !((c.toNat : Int) == 32) := by rw [show ((32 : Int)) = ((32 : UInt8).toNat : Int) from rfl, byte_eqs, Bool.not_not]
  have e9 : (c != 9) = !((c.toNat : Int) == 9) := by rw [show ((9 : Int)) = ((9 : UInt8).toNat : Int) from rfl, byte_eqs, Bool.not_not]
  have e40 : (c != 40) = !((c.toNat : Int) == 40) := by rw [show ((40 : Int)) = ((40 : UInt8).toNat : Int) from rfl, byte_eqs, Bool.not_not]
  have e41 : (c != 41) = !((c.toNat : Int) == 41) := by rw [show ((41 : Int)) = ((41 : UInt8).toNat : Int) from rfl, byte_eqs, Bool.not_not]
  have e44 : (c != 44) = !((c.toNat : Int) == 44) := by rw [show ((44 : Int)) = ((44 : UInt8).toNat : Int) from rfl, byte_eqs, Bool.not_not]
  have e34 : (c != 34) = !((c.toNat : Int) == 34) := by rw [show ((34 : Int)) = ((34 : UInt8).toNat : Int) from rfl, byte_eqs, Bool.not_not]
  obtain ⟨q, hq⟩ : ∃ q, plainC c = q := ⟨_, rfl⟩
  have HQ := box hq
  unfold plainC at hq
  rw [e32, e9, e40, e41, e44, e34] at hq
  rw [HQ.out]
  clear e32 e9 e40 e41 e44 e34
  rcases t32 : ((c.toNat : Int) == 32) with _ | _
  rotate_left
  · obtain rfl : q = false := by rw [← hq, t32]; simp
    clear hq
    go_enter Tryz.func106, Tryz.ntmps106
    go_wp2
    go_ret
    exact ⟨rfl, rfl⟩
  rcases t9 : ((c.toNat : Int) == 9) with _ | _
  rotate_left
  · obtain rfl : q = false := by rw [← hq, t32, t9]; simp
    clear hq
    go_enter Tryz.func106, Tryz.ntmps106
    go_wp2
    go_ret
    exact ⟨rfl, rfl⟩
  rcases t40 : ((c.toNat : Int) == 40) with _ | _
  rotate_left
  · obtain rfl : q = false := by rw [← hq, t32, t9, t40]; simp
    clear hq
    go_enter Tryz.func106, Tryz.ntmps106
    go_wp2
    go_ret
    exact ⟨rfl, rfl⟩
  rcases t41 : ((c.toNat : Int) == 41) with _ | _
  rotate_left
  · obtain rfl : q = false := by rw [← hq, t32, t9, t40, t41]; simp
    clear hq
    go_enter Tryz.func106, Tryz.ntmps106
    go_wp2
    go_ret
    exact ⟨rfl, rfl⟩
  rcases t44 : ((c.toNat : Int) == 44) with _ | _
  rotate_left
  · obtain rfl : q = false := by rw [← hq, t32, t9, t40, t41, t44]; simp
    clear hq
    go_enter Tryz.func106, Tryz.ntmps106
    go_wp2
    go_ret
    exact ⟨rfl, rfl⟩
  rcases t34 : ((c.toNat : Int) == 34) with _ | _
  rotate_left
  · obtain rfl : q = false := by rw [← hq, t32, t9, t40, t41, t44, t34]; simp
    clear hq
    go_enter Tryz.func106, Tryz.ntmps106
    go_wp2
    go_ret
    exact ⟨rfl, rfl⟩
  obtain rfl : q = true := by rw [← hq, t32, t9, t40, t41, t44, t34]; rfl
  clear hq
  go_enter Tryz.func106, Tryz.ntmps106
  go_wp2
  go_ret
  exact ⟨rfl, rfl⟩
theorem mayStand_is {c : UInt8} {b : Bool} {w : World} (h : Box (plainC c = b)) :
    Calls Tryz.prog 106 #[.int .u8 (c.toNat : Int)] w fun e w' => e = .returned (.bool b) ∧ w = w' :=
  (mayStand_any c w).mono fun e w' ⟨h1, h2⟩ => ⟨by rw [h1, h.out], h2⟩
/-- a byte that is written outside quoted strings -/
def writC (c : UInt8) : Bool := visI c.toNat && plainC c
theorem isWrit_any (c : UInt8) (w : World) :
    Calls Tryz.prog 94 #[.int .u8 (c.toNat : Int)] w fun e w' => e = .returned (.bool (writC c)) ∧ w = w' := by
  obtain ⟨q, hq⟩ : ∃ q, plainC c = q := ⟨_, rfl⟩
  have HQ := box hq
  have hv : writC c = (visI c.toNat && q) := by unfold writC; rw [hq]
  rw [hv]
  clear hq hv
  by_cases h1 : (33 : Int) ≤ (c.toNat : Int)
  · by_cases h2 : (c.toNat : Int) ≤ 126
    · have hv : visI c.toNat = true := by unfold visI; exact decide_eq_true ⟨h1, h2⟩
      rw [hv]
      clear hv
      go_enter Tryz.func94, Tryz.ntmps94
      go_wp2_with fail
      refine (mayStand_is HQ).mono ?_; rintro e w1 ⟨rfl, rfl⟩
      go_wp2
      go_ret
      exact ⟨rfl, rfl⟩
    · have hv : visI c.toNat = false := by unfold visI; exact decide_eq_false (fun h => h2 h.2)
      rw [hv]
      clear hv
      go_enter Tryz.func94, Tryz.ntmps94
      go_wp2
      go_ret
      exact ⟨rfl, rfl⟩
  · have hv : visI c.toNat = false := by unfold visI; exact decide_eq_false (fun h => h1 h.1)
    rw [hv]
    clear hv
    go_enter Tryz.func94, Tryz.ntmps94
    go_wp2
    go_ret
    exact ⟨rfl, rfl⟩
theorem isWrit_is {c : UInt8} {b : Bool} {w : World} (h : Box (writC c = b)) :
    Calls Tryz.prog 94 #[.int .u8 (c.toNat : Int)] w fun e w' => e = .returned (.bool b) ∧ w = w' :=
  (isWrit_any c w).mono fun e w' ⟨h1, h2⟩ => ⟨by rw [h1, h.out], h2⟩
/-- one or more bytes, all permitted -/
def conL (P : UInt8 → Bool) (l : List UInt8) : Bool := l.all P && !l.isEmpty
theorem con_more {P : UInt8 → Bool} {s : ByteArray} {k : Nat} (h : (s.data.toList.take k).all P = true) (hk : k < s.size) (hp : P s[k] = true) : (s.data.toList.take (k + 1)).all P = true := by
  rw [take_snoc s k hk, List.all_append, h]; simpa using hp
theorem con_no {P : UInt8 → Bool} {s : ByteArray} {k : Nat} (hk : k < s.size) (hp : P s[k] = false) : conL P s.data.toList = false := by
  have hl : k < s.data.toList.length := by simpa using hk
  have : s.data.toList.all P = false := by rw [List.all_eq_false]; exact ⟨s.data.toList[k], List.getElem_mem hl, by rw [show s.data.toList[k] = s[k] from rfl, hp]; simp⟩
  unfold conL; rw [this]; rfl
theorem con_end {P : UInt8 → Bool} {s : ByteArray} (h : (s.data.toList.take s.size).all P = true) : conL P s.data.toList = !(s.toList.isEmpty) := by
  rw [List.take_of_length_le (by simp)] at h
  unfold conL; rw [h, toList_data]; rfl
theorem conRead_any (s : ByteArray) (z : Bool) (w : World) (hs : s.size ≤ 65000) (hz : Box (conL plainC s.data.toList = z)) :
    Calls Tryz.prog 93 #[.string s, .func (.func 106) #[] #[]] w fun e w' => e = .returned (.bool z) ∧ w = w' := by
  go_enter Tryz.func93, Tryz.ntmps93
  go_wp2
  go_loop [8] (fun i => ∃ k : Nat, i = .int .i64 k ∧ k ≤ s.size ∧ Box ((s.data.toList.take k).all plainC = true)) (fun i => s.size - (intOf i).toNat)
  case atStart => exact ⟨0, rfl, Nat.zero_le _, box rfl⟩
  case round =>
    obtain ⟨k, rfl, hk, HA⟩ := hrel
    by_cases hlt : k < s.size
    · have hki : (k : Int) < (s.size : Int) := by omega
      obtain ⟨c, hc⟩ : ∃ c, s[k] = c := ⟨_, rfl⟩
      obtain ⟨q, hq⟩ : ∃ q, plainC c = q := ⟨_, rfl⟩
      have HQ := box hq
      cases q with
      | true =>
        have HN := box (con_more HA.out hlt (by rw [hc, hq]))
        clear hq
        go_wp2_with fail
        refine (mayStand_is HQ).mono ?_; rintro e w1 ⟨rfl, rfl⟩
        go_wp2
        go_round
        case rel => exact ⟨k + 1, by go_num, hlt, HN⟩
        case measure => simp [intOf]; omega
      | false =>
        have HN : Box (z = false) := box (by rw [← hz.out]; exact con_no hlt (by rw [hc, hq]))
        clear hq
        go_wp2_with fail
        refine (mayStand_is HQ).mono ?_; rintro e w1 ⟨rfl, rfl⟩
        go_wp2
        go_ret
        exact ⟨by rw [HN.out]; rfl, rfl⟩
    · have hki : ¬ (k : Int) < (s.size : Int) := by omega
      obtain rfl : k = s.size := by omega
      have HN : Box (z = !(s.toList.isEmpty)) := box (by rw [← hz.out]; exact con_end HA.out)
      go_wp2
      go_ret
      exact ⟨by rw [HN.out]; rfl, rfl⟩
theorem conWrit_any (s : ByteArray) (z : Bool) (w : World) (hs : s.size ≤ 65000) (hz : Box (conL writC s.data.toList = z)) :
    Calls Tryz.prog 93 #[.string s, .func (.func 94) #[] #[]] w fun e w' => e = .returned (.bool z) ∧ w = w' := by
  go_enter Tryz.func93, Tryz.ntmps93
  go_wp2
  go_loop [8] (fun i => ∃ k : Nat, i = .int .i64 k ∧ k ≤ s.size ∧ Box ((s.data.toList.take k).all writC = true)) (fun i => s.size - (intOf i).toNat)
  case atStart => exact ⟨0, rfl, Nat.zero_le _, box rfl⟩
  case round =>
    obtain ⟨k, rfl, hk, HA⟩ := hrel
    by_cases hlt : k < s.size
    · have hki : (k : Int) < (s.size : Int) := by omega
      obtain ⟨c, hc⟩ : ∃ c, s[k] = c := ⟨_, rfl⟩
      obtain ⟨q, hq⟩ : ∃ q, writC c = q := ⟨_, rfl⟩
      have HQ := box hq
      cases q with
      | true =>
        have HN := box (con_more HA.out hlt (by rw [hc, hq]))
        clear hq
        go_wp2_with fail
        refine (isWrit_is HQ).mono ?_; rintro e w1 ⟨rfl, rfl⟩
        go_wp2
        go_round
        case rel => exact ⟨k + 1, by go_num, hlt, HN⟩
        case measure => simp [intOf]; omega
      | false =>
        have HN : Box (z = false) := box (by rw [← hz.out]; exact con_no hlt (by rw [hc, hq]))
        clear hq
        go_wp2_with fail
        refine (isWrit_is HQ).mono ?_; rintro e w1 ⟨rfl, rfl⟩
        go_wp2
        go_ret
        exact ⟨by rw [HN.out]; rfl, rfl⟩
    · have hki : ¬ (k : Int) < (s.size : Int) := by omega
      obtain rfl : k = s.size := by omega
      have HN : Box (z = !(s.toList.isEmpty)) := box (by rw [← hz.out]; exact con_end HA.out)
      go_wp2
      go_ret
      exact ⟨by rw [HN.out]; rfl, rfl⟩
theorem Unq15_none {s : ByteArray} {w : World} (hs : s.size ≤ 4294967296) (h : Box (unqL s.data.toList = none)) :
    Calls Tryz.prog 107 #[.string s] w fun e w' => e = .returned (.tuple #[.string ⟨#[]⟩, .bool false]) ∧ Below w.heap.size w w' :=
  (Unquote_any s w hs).mono fun e w' ⟨h1, h2⟩ => ⟨by rw [h1, h.out]; rfl, h2⟩
theorem Unq15_some {s x : ByteArray} {u : List UInt8} {w : World} (hs : s.size ≤ 4294967296) (h : Box (unqL s.data.toList = some u ∧ bs u = x)) :
    Calls Tryz.prog 107 #[.string s] w fun e w' => e = .returned (.tuple #[.string x, .bool true]) ∧ Below w.heap.size w w' :=
  (Unquote_any s w hs).mono fun e w' ⟨h1, h2⟩ => ⟨by rw [h1, h.out.1, ← h.out.2]; rfl, h2⟩
theorem read_con {l : List UInt8} (h : l ≠ []) : readV l = if conL plainC l = true then some l else unqL l := by
  unfold readV conL
  cases l with
  | nil => exact absurd rfl h
  | cons c r => simp
theorem word_con (l : List UInt8) : wordW l = if conL writC l = true then l else quoteL l := by
  have e : conL writC l = (visL l && l.all plainC) := by
    unfold conL visL writC allI
    rw [Bool.eq_iff_iff]
    simp only [Bool.and_eq_true, List.all_eq_true]
    constructor
    · rintro ⟨h1, h2⟩; exact ⟨⟨h2, fun c hc => (h1 c hc).1⟩, fun c hc => (h1 c hc).2⟩
    · rintro ⟨⟨h1, h2⟩, h3⟩; exact ⟨fun c hc => ⟨h2 c hc, h3 c hc⟩, h1⟩
  unfold wordW
  rw [e]
/-- the value that a piece stands for, in parts -/
def rdV (t : ByteArray) : Value := match readV t.data.toList with
  | some v => .tuple #[.string (bs v), .bool true]
  | none => .tuple #[.string ⟨#[]⟩, .bool false]
theorem parseVal_any (t : ByteArray) (v : Value) (w : World) (ht : t.size ≤ 65000) (hne : Box (t.data.toList ≠ [])) (hv : Box (rdV t = v)) :
    Calls Tryz.prog 89 #[.string t] w fun e w' => e = .returned v ∧ Below w.heap.size w w' := by
  obtain ⟨q, hq⟩ : ∃ q, conL plainC t.data.toList = q := ⟨_, rfl⟩
  have HQ := box hq
  have ht4 : t.size ≤ 4294967296 := by omega
  cases q with
  | true =>
    have HV : Box (v = .tuple #[.string t, .bool true]) := box (by
      rw [← hv.out]; unfold rdV; rw [read_con hne.out, hq, if_pos rfl]; show Value.tuple #[.string (bs t.data.toList), .bool true] = _; rw [← bs_of t])
    clear hq
    go_enter Tryz.func89, Tryz.ntmps89
    go_wp2_with fail
    refine (conRead_any t true _ ht HQ).mono ?_; rintro e w1 ⟨rfl, rfl⟩
    go_wp2
    go_ret2
    exact ⟨by rw [HV.out]; rfl, Below.refl _ _⟩
  | false =>
    cases hu : unqL t.data.toList with
    | none =>
      have HV : Box (v = .tuple #[.string ⟨#[]⟩, .bool false]) := box (by
        rw [← hv.out]; unfold rdV; rw [read_con hne.out, hq, if_neg (by simp), hu])
      have HU := box hu
      clear hq hu
      go_enter Tryz.func89, Tryz.ntmps89
      go_wp2_with fail
      refine (conRead_any t false _ ht HQ).mono ?_; rintro e w1 ⟨rfl, rfl⟩
      go_wp2_with fail
      refine (Unq15_none ht4 HU).mono ?_; rintro e w2 ⟨rfl, hb2⟩
      have B2 := box hb2
      clear hb2
      go_wp2
      go_ret2
      exact ⟨by rw [HV.out]; rfl, B2.out⟩
    | some u =>
      have HV : Box (v = .tuple #[.string (bs u), .bool true]) := box (by
        rw [← hv.out]; unfold rdV; rw [read_con hne.out, hq, if_neg (by simp), hu])
      obtain ⟨x, hx⟩ : ∃ x, bs u = x := ⟨_, rfl⟩
      have HU : Box (unqL t.data.toList = some u ∧ bs u = x) := box ⟨hu, hx⟩
      rw [hx] at HV
      clear hq hu hx
      go_enter Tryz.func89, Tryz.ntmps89
      go_wp2_with fail
      refine (conRead_any t false _ ht HQ).mono ?_; rintro e w1 ⟨rfl, rfl⟩
      go_wp2_with fail
      refine (Unq15_some ht4 HU).mono ?_; rintro e w2 ⟨rfl, hb2⟩
      have B2 := box hb2
      clear hb2
      go_wp2
      go_ret2
      exact ⟨by rw [HV.out]; rfl, B2.out⟩
theorem formatVal_any (t x : ByteArray) (w : World) (ht : t.size ≤ 65000) (hv : Box (bs (wordW t.data.toList) = x)) :
    Calls Tryz.prog 74 #[.string t] w fun e w' => e = .returned (.string x) ∧ Below w.heap.size w w' := by
  obtain ⟨q, hq⟩ : ∃ q, conL writC t.data.toList = q := ⟨_, rfl⟩
  have HQ := box hq
  have ht4 : t.size ≤ 1073741824 := by omega
  cases q with
  | true =>
    have HV : Box (x = t) := box (by rw [← hv.out, word_con, hq, if_pos rfl, ← bs_of t])
    clear hq
    go_enter Tryz.func74, Tryz.ntmps74
    go_wp2_with fail
    refine (conWrit_any t true _ ht HQ).mono ?_; rintro e w1 ⟨rfl, rfl⟩
    go_wp2
    go_ret
    exact ⟨by rw [HV.out]; rfl, Below.refl _ _⟩
  | false =>
    have HV : Box (bs (quoteL t.data.toList) = x) := box (by rw [← hv.out, word_con, hq, if_neg (by simp)])
    clear hq
    go_enter Tryz.func74, Tryz.ntmps74
    go_wp2_with fail
    refine (conWrit_any t false _ ht HQ).mono ?_; rintro e w1 ⟨rfl, rfl⟩
    go_wp2_with fail
    refine (aQuote_is ht4 HV).mono ?_; rintro e w2 ⟨rfl, hb2⟩
    have B2 := box hb2
    clear hb2
    go_wp2
    go_ret
    exact ⟨rfl, B2.out⟩
end
section
open Go.RowKit
theorem one_pre {s : ByteArray} {c : UInt8} (h : 1 ≤ s.size) : ((s.extract 0 1).toList == [c]) = decide (s.data.toList.head? = some c) := by
  have h2 : (s.extract 0 1).toList = s.data.toList.take 1 := by
    rw [toList_data, ByteArray.data_extract, Array.toList_extract, List.extract_eq_take_drop, List.drop_zero]
  rw [h2]
  have hl : s.data.toList.length = s.size := by simp
  cases e : s.data.toList with
  | nil => rw [e] at hl; simp only [List.length_nil] at hl; omega
  | cons d r =>
    rw [List.take_succ_cons, List.take_zero, List.head?_cons]
    by_cases q : d = c
    · subst q; simp
    · rw [decide_eq_false (by simpa using q)]; exact beq_eq_false_iff_ne.2 (by simpa using q)
theorem one_suf {s : ByteArray} {c : UInt8} (h : 1 ≤ s.size) : ((s.extract (s.size - 1) s.size).toList == [c]) = decide (s.data.toList.getLast? = some c) := by
  have hl : s.data.toList.length = s.size := by simp
  have h2 : (s.extract (s.size - 1) s.size).toList = s.data.toList.drop (s.size - 1) := by
    rw [toList_data, ByteArray.data_extract, Array.toList_extract, List.extract_eq_take_drop, List.take_of_length_le (by rw [List.length_drop, hl]; omega)]
  rw [h2, ← hl]
  have hne : s.data.toList ≠ [] := fun e => by rw [e] at hl; simp at hl; omega
  have e2 : s.data.toList.drop (s.data.toList.length - 1) = [s.data.toList.getLast hne] := by
    obtain ⟨a, d, ha⟩ : ∃ a d, s.data.toList = a ++ [d] := ⟨_, _, (List.dropLast_concat_getLast hne).symm⟩
    have hg : s.data.toList.getLast hne = d := by simp [ha]
    rw [hg, ha]; simp
  rw [e2, List.getLast?_eq_some_getLast hne]
  by_cases q : s.data.toList.getLast hne = c
  · rw [q]; simp
  · rw [decide_eq_false (by simpa using q)]; exact beq_eq_false_iff_ne.2 (by simpa using q)
theorem hasPre40_is {s : ByteArray} {b : Bool} {w : World} (hs : s.size ≤ 65000) (h : Box (decide (s.data.toList.head? = some 40) = b)) :
    Calls Tryz.prog 116 #[.string s, .string ⟨#[40]⟩] w fun e w' => e = .returned (.bool b) ∧ w = w' := by
  by_cases h1 : 1 ≤ s.size
  · have hi : (1 : Int) ≤ (s.size : Int) := by omega
    have ht := one_pre (c := 40) h1
    rw [h.out] at ht
    go_enter Tryz.func116, Tryz.ntmps116
    go_wp2
    go_ret
    exact ⟨rfl, rfl⟩
  · have hi : ¬ (1 : Int) ≤ (s.size : Int) := by omega
    have hb : b = false := by
      rw [← h.out]
      have : s.data.toList = [] := List.eq_nil_of_length_eq_zero (by have : s.data.toList.length = s.size := by simp
                                                                     omega)
      rw [this]; rfl
    subst hb
    go_enter Tryz.func116, Tryz.ntmps116
    go_wp2
    go_ret
    exact ⟨rfl, rfl⟩
theorem hasSuf41_is {s : ByteArray} {b : Bool} {w : World} (hs : s.size ≤ 65000) (h : Box (decide (s.data.toList.getLast? = some 41) = b)) :
    Calls Tryz.prog 117 #[.string s, .string ⟨#[41]⟩] w fun e w' => e = .returned (.bool b) ∧ w = w' := by
  by_cases h1 : 1 ≤ s.size
  · have hi : (1 : Int) ≤ (s.size : Int) := by omega
    have ht := one_suf (c := 41) h1
    obtain ⟨p, hp⟩ : ∃ p, s.size - 1 = p := ⟨_, rfl⟩
    have hpi : (s.size : Int) - 1 = (p : Int) := by omega
    have hps : (p : Int) ≤ (s.size : Int) := by omega
    rw [h.out, hp] at ht
    clear hp h1
    go_enter Tryz.func117, Tryz.ntmps117
    go_wp2
    go_ret
    exact ⟨rfl, rfl⟩
  · have hi : ¬ (1 : Int) ≤ (s.size : Int) := by omega
    have hb : b = false := by
      rw [← h.out]
      have : s.data.toList = [] := List.eq_nil_of_length_eq_zero (by have : s.data.toList.length = s.size := by simp
                                                                     omega)
      rw [this]; rfl
    subst hb
    go_enter Tryz.func117, Tryz.ntmps117
    go_wp2
    go_ret
    exact ⟨rfl, rfl⟩
/-- behind the '(' at the beginning -/
theorem scutPre40_yes {s : ByteArray} {w : World} (hs : s.size ≤ 65000) (h : Box (s.data.toList.head? = some 40)) :
    Calls Tryz.prog 104 #[.string s, .string ⟨#[40]⟩] w fun e w' => e = .returned (.tuple #[.string (s.extract 1 s.size), .bool true]) ∧ w = w' := by
  have HB : Box (decide (s.data.toList.head? = some 40) = true) := box (decide_eq_true h.out)
  have h1 : (1 : Int) ≤ (s.size : Int) := by
    have hl : s.data.toList.length = s.size := by simp
    have hh := h.out
    have : s.data.toList ≠ [] := fun e => by rw [e] at hh; cases hh
    have := List.length_pos_iff.2 this
    omega
  go_enter Tryz.func104, Tryz.ntmps104
  go_wp2_with fail
  refine (hasPre40_is hs HB).mono ?_; rintro e w1 ⟨rfl, rfl⟩
  go_wp2
  go_ret2
  exact ⟨rfl, rfl⟩
theorem cutPre40_yes {s : ByteArray} {w : World} (hs : s.size ≤ 65000) (h : Box (s.data.toList.head? = some 40)) :
    Calls Tryz.prog 87 #[.string s, .string ⟨#[40]⟩] w fun e w' => e = .returned (.tuple #[.string (s.extract 1 s.size), .bool true]) ∧ w = w' := by
  go_enter Tryz.func87, Tryz.ntmps87
  go_wp2_with fail
  refine (scutPre40_yes hs h).mono ?_; rintro e w1 ⟨rfl, rfl⟩
  go_wp2
  go_ret2
  exact ⟨rfl, rfl⟩
theorem scutPre40_no {s : ByteArray} {w : World} (hs : s.size ≤ 65000) (h : Box (s.data.toList.head? ≠ some 40)) :
    Calls Tryz.prog 104 #[.string s, .string ⟨#[40]⟩] w fun e w' => e = .returned (.tuple #[.string s, .bool false]) ∧ w = w' := by
  have HB : Box (decide (s.data.toList.head? = some 40) = false) := box (decide_eq_false h.out)
  go_enter Tryz.func104, Tryz.ntmps104
  go_wp2_with fail
  refine (hasPre40_is hs HB).mono ?_; rintro e w1 ⟨rfl, rfl⟩
  go_wp2
  go_ret2
  exact ⟨rfl, rfl⟩
theorem cutPre40_no {s : ByteArray} {w : World} (hs : s.size ≤ 65000) (h : Box (s.data.toList.head? ≠ some 40)) :
    Calls Tryz.prog 87 #[.string s, .string ⟨#[40]⟩] w fun e w' => e = .returned (.tuple #[.string s, .bool false]) ∧ w = w' := by
  go_enter Tryz.func87, Tryz.ntmps87
  go_wp2_with fail
  refine (scutPre40_no hs h).mono ?_; rintro e w1 ⟨rfl, rfl⟩
  go_wp2
  go_ret2
  exact ⟨rfl, rfl⟩
/-- ahead of the ')' at the end -/
theorem scutSuf41_yes {s : ByteArray} {w : World} (hs : s.size ≤ 65000) (h : Box (s.data.toList.getLast? = some 41)) :
    Calls Tryz.prog 105 #[.string s, .string ⟨#[41]⟩] w fun e w' => e = .returned (.tuple #[.string (s.extract 0 (s.size - 1)), .bool true]) ∧ w = w' := by
  have HB : Box (decide (s.data.toList.getLast? = some 41) = true) := box (decide_eq_true h.out)
  have h1 : (1 : Int) ≤ (s.size : Int) := by
    have hl : s.data.toList.length = s.size := by simp
    have hh := h.out
    have : s.data.toList ≠ [] := fun e => by rw [e] at hh; cases hh
    have := List.length_pos_iff.2 this
    omega
  obtain ⟨p, hp⟩ : ∃ p, s.size - 1 = p := ⟨_, rfl⟩
  have hpi : (s.size : Int) - 1 = (p : Int) := by omega
  have hps : (p : Int) ≤ (s.size : Int) := by omega
  have hpn : p ≤ s.size := by omega
  rw [hp]
  clear hp
  go_enter Tryz.func105, Tryz.ntmps105
  go_wp2_with fail
  refine (hasSuf41_is hs HB).mono ?_; rintro e w1 ⟨rfl, rfl⟩
  go_wp2
  go_ret2
  exact ⟨rfl, rfl⟩
theorem cutSuf41_yes {s : ByteArray} {w : World} (hs : s.size ≤ 65000) (h : Box (s.data.toList.getLast? = some 41)) :
    Calls Tryz.prog 88 #[.string s, .string ⟨#[41]⟩] w fun e w' => e = .returned (.tuple #[.string (s.extract 0 (s.size - 1)), .bool true]) ∧ w = w' := by
  go_enter Tryz.func88, Tryz.ntmps88
  go_wp2_with fail
  refine (scutSuf41_yes hs h).mono ?_; rintro e w1 ⟨rfl, rfl⟩
  go_wp2
  go_ret2
  exact ⟨rfl, rfl⟩
theorem scutSuf41_no {s : ByteArray} {w : World} (hs : s.size ≤ 65000) (h : Box (s.data.toList.getLast? ≠ some 41)) :
    Calls Tryz.prog 105 #[.string s, .string ⟨#[41]⟩] w fun e w' => e = .returned (.tuple #[.string s, .bool false]) ∧ w = w' := by
  have HB : Box (decide (s.data.toList.getLast? = some 41) = false) := box (decide_eq_false h.out)
  go_enter Tryz.func105, Tryz.ntmps105
  go_wp2_with fail
  refine (hasSuf41_is hs HB).mono ?_; rintro e w1 ⟨rfl, rfl⟩
  go_wp2
  go_ret2
  exact ⟨rfl, rfl⟩
theorem cutSuf41_no {s : ByteArray} {w : World} (hs : s.size ≤ 65000) (h : Box (s.data.toList.getLast? ≠ some 41)) :
    Calls Tryz.prog 88 #[.string s, .string ⟨#[41]⟩] w fun e w' => e = .returned (.tuple #[.string s, .bool false]) ∧ w = w' := by
  go_enter Tryz.func88, Tryz.ntmps88
  go_wp2_with fail
  refine (scutSuf41_no hs h).mono ?_; rintro e w1 ⟨rfl, rfl⟩
  go_wp2
  go_ret2
  exact ⟨rfl, rfl⟩
end
section
open Go.RowKit
/-- the lengths of the first k -/
def lenT (L : List ByteArray) (k : Nat) : Nat := ((L.take k).map (·.size)).sum
theorem lenT_next {L : List ByteArray} {k : Nat} (h : k < L.length) : lenT L (k + 1) = lenT L k + L[k].size := by
  unfold lenT; rw [List.take_add_one, List.getElem?_eq_getElem h, Option.toList_some, List.map_append, List.sum_append]; rfl
theorem lenT_le {L : List ByteArray} (hz : ∀ x ∈ L, x.size ≤ 65536) : ∀ k, lenT L k ≤ k * 65536
  | 0 => by simp [lenT]
  | k + 1 => by
    have ih := lenT_le hz k
    by_cases h : k < L.length
    · rw [lenT_next h]; have := hz L[k] (List.getElem_mem h); omega
    · have e : lenT L (k + 1) = lenT L k := by unfold lenT; rw [List.take_of_length_le (by omega), List.take_of_length_le (by omega)]
      omega
theorem joinC_len {ms : List (List UInt8)} (hz : ∀ x ∈ ms, x.length ≤ 65536) : ∀ k, (joinC (ms.take k)).length ≤ k * 65540
  | 0 => by simp [joinC]
  | k + 1 => by
    have ih := joinC_len hz k
    by_cases h : k < ms.length
    · have := hz ms[k] (List.getElem_mem h)
      rw [joinC_more h]
      split
      · omega
      · simp only [List.length_append, List.length_cons, List.length_nil]; omega
    · have e : ms.take (k + 1) = ms.take k := by rw [List.take_of_length_le (by omega), List.take_of_length_le (by omega)]
      rw [e]
      exact Nat.le_trans ih (Nat.mul_le_mul_right _ (Nat.le_succ k))
theorem joinC_two {a b : List UInt8} {r : List (List UInt8)} : joinC (a :: b :: r) ≠ [] := by
  show a ++ [44, 32] ++ joinC (b :: r) ≠ []
  simp
theorem Join0_any (a : Option Addr) (cap : Nat) (w : World) :
    Calls Tryz.prog 75 #[.slice a 0 cap, .string ⟨#[44, 32]⟩] w fun e w' => e = .returned (.string ⟨#[]⟩) ∧ w = w' := by
  go_enter Tryz.func75, Tryz.ntmps75
  go_wp2
  go_ret
  exact ⟨rfl, rfl⟩
theorem Join1_any (q off cap : Nat) (x : ByteArray) (w : World) (c0 : w.cell? ⟨q, off, none⟩ = some (.string x)) :
    Calls Tryz.prog 75 #[.slice (some ⟨q, off, none⟩) 1 cap, .string ⟨#[44, 32]⟩] w fun e w' => e = .returned (.string x) ∧ w = w' := by
  go_enter Tryz.func75, Tryz.ntmps75
  go_wp2
  go_ret
  exact ⟨rfl, rfl⟩
def Jn1 (L : List ByteArray) (n i : Value) : Prop := ∃ k : Nat, k ≤ L.length ∧ i = .int .i64 k ∧ n = .int .i64 ((2 * (L.length - 1) + lenT L k : Nat) : Int)
def Jn2 (ms : List (List UInt8)) (B : Nat) (w : World) (i : Value) (wr : World) : Prop := ∃ k : Nat, k + 1 ≤ ms.length ∧ i = .int .i64 k ∧ Box (Bld wr B B (joinC (ms.take (k + 1)))) ∧ Box (Below B w wr)
set_option maxHeartbeats 2000000 in
theorem JoinN_any (q off cap : Nat) (L : List ByteArray) (w : World) (h2 : 2 ≤ L.length) (hl : L.length ≤ 65536) (hcap : L.length ≤ cap) (hz : Box (∀ x ∈ L, x.size ≤ 65536)) (hF : Box (Ss w (some ⟨q, off, none⟩) L)) :
    Calls Tryz.prog 75 #[.slice (some ⟨q, off, none⟩) L.length cap, .string ⟨#[44, 32]⟩] w fun e w' => e = .returned (.string (joinB L)) ∧ Below w.heap.size w w' := by
  have hdv : ¬ (9223372036854775807 / ((L.length : Int) - 1) ≤ 2) := by
    have : 3 ≤ 9223372036854775807 / ((L.length : Int) - 1) := by
      rw [Int.le_ediv_iff_mul_le (by omega)]; omega
    omega
  have hne0 : ((L.length : Int) == 0) = false := beq_eq_false_iff_ne.2 (by omega)
  have hne1 : ((L.length : Int) == 1) = false := beq_eq_false_iff_ne.2 (by omega)
  go_enter Tryz.func75, Tryz.ntmps75
  go_wp2_with fail
  go_loop [5, 41] (fun n i => Jn1 L n i) (fun _ i => L.length - (intOf i).toNat)
  case atStart => exact ⟨0, Nat.zero_le _, rfl, by unfold lenT; simp; omega⟩
  case round =>
    obtain ⟨k, hk, rfl, rfl⟩ := hrel
    have hlz := lenT_le hz.out k
    by_cases hlt : k < L.length
    · obtain ⟨q', off', e, c0⟩ := hF.out k hlt
      cases e
      have hx := hz.out L[k] (List.getElem_mem hlt)
      have HN := box (lenT_next hlt)
      obtain ⟨A, hA⟩ : ∃ A, lenT L k = A := ⟨_, rfl⟩
      have HA := box hA
      rw [hA] at hlz ⊢
      clear hA
      go_wp2
      go_round
      case rel => exact ⟨k + 1, by omega, by go_num, by rw [HN.out, HA.out]; go_num⟩
      case measure => simp [intOf]; omega
    · obtain rfl : k = L.length := by omega
      obtain ⟨n, hn⟩ : ∃ n, 2 * (L.length - 1) + lenT L L.length = n := ⟨_, rfl⟩
      have hn8 : n ≤ 281474976710656 := by omega
      rw [hn]
      clear hn hlz
      obtain ⟨ms, hms⟩ : ∃ ms, (L.map fun x => x.data.toList) = ms := ⟨_, rfl⟩
      have HJ : Box (joinB L = bs (joinC ms)) := box (by unfold joinB; rw [hms])
      have hml : ms.length = L.length := by rw [← hms, List.length_map]
      have HME : Box (∀ k (h : k < L.length), ms[k]'(by omega) = L[k].data.toList) := box (fun k h => by simp only [← hms, List.getElem_map])
      have HML : Box (∀ x ∈ ms, x.length ≤ 65536) := box (fun x hx => by
        rw [← hms] at hx
        obtain ⟨y, hy, rfl⟩ := List.mem_map.mp hx
        have := hz.out y hy
        simpa using this)
      clear hms
      have hq : q < w.heap.size := by
        obtain ⟨q', off', e, c0⟩ := hF.out 0 (by omega)
        cases e
        exact cell_lt c0
      go_wp2_with fail
      refine (Grow_new w.heap.size w.heap.size n _ (Nat.le_refl _) (heap_alloc_new w _) (by simp) hn8).mono ?_; rintro e w1 ⟨rfl, hA1, hb1⟩
      have A1 : Box (Bld w1 w.heap.size w.heap.size []) := box (.inr hA1)
      have B1 := box ((below_new w _).trans hb1)
      have hs1 := B1.out.size
      clear hA1 hb1
      have hl0 : 0 < L.length := by omega
      obtain ⟨q', off', e, c0⟩ := (hF.out.below B1.out) 0 hl0
      cases e
      rw [Nat.add_zero] at c0
      have hx0 := hz.out L[0] (List.getElem_mem hl0)
      go_wp2_with fail
      refine (WriteString_any w.heap.size w.heap.size [] L[0] _ A1 (by rw [List.length_nil]; omega) hs1).mono ?_; rintro e w2 ⟨rfl, hA2, hb2⟩
      have A2 : Box (Bld w2 w.heap.size w.heap.size (joinC (ms.take 1))) := box (.inr (by
        rw [joinC_more (k := 0) (by omega), if_pos rfl, HME.out 0 hl0]; exact hA2))
      have B2 := box (B1.out.trans hb2)
      clear hA2 hb2 c0
      go_wp2_with fail
      go_loopw [65] (fun i wr => Jn2 ms w.heap.size w i wr) (fun i _ => L.length - (intOf i).toNat)
      case atStart => exact ⟨0, by omega, rfl, A2, B2⟩
      case round =>
        obtain ⟨k, hk, rfl, A3, B3⟩ := hrel
        have hs3 := B3.out.size
        have hjl := joinC_len HML.out (k + 1)
        by_cases hlt : k + 1 < L.length
        · obtain ⟨q', off', e, c0⟩ := (hF.out.below B3.out) (k + 1) hlt
          cases e
          rw [show off + (k + 1) = off + 1 + k from by omega] at c0
          have hxk := hz.out L[k + 1] (List.getElem_mem hlt)
          go_wp2_with fail
          refine (WriteString_any w.heap.size w.heap.size _ ⟨#[44, 32]⟩ _ A3 (by show _ + 2 ≤ _; omega) hs3).mono ?_; rintro e w4 ⟨rfl, hA4, hb4⟩
          have A4 : Box (Bld w4 w.heap.size w.heap.size (joinC (ms.take (k + 1)) ++ [44, 32])) := box (.inr hA4)
          have B4 := box (B3.out.trans hb4)
          have hs4 := B4.out.size
          clear hA4 hb4
          go_wp2_with fail
          refine (WriteString_any w.heap.size w.heap.size _ L[k + 1] _ A4 (by rw [List.length_append]; show _ + 2 + _ ≤ _; omega) hs4).mono ?_; rintro e w5 ⟨rfl, hA5, hb5⟩
          have A5 : Box (Bld w5 w.heap.size w.heap.size (joinC (ms.take (k + 1 + 1)))) := box (.inr (by
            rw [joinC_more (k := k + 1) (by omega), if_neg (by omega), HME.out (k + 1) hlt]; exact hA5))
          have B5 := box (B4.out.trans hb5)
          clear hA5 hb5 c0
          go_wp2
          go_roundw
          case rel => exact ⟨k + 1, by omega, by go_num, A5, B5⟩
          case measure => simp [intOf]; omega
        · have hfull : ms.take (k + 1) = ms := List.take_of_length_le (by omega)
          rw [hfull] at A3
          have hne : joinC ms ≠ [] := by
            match ms, hml, h2 with
            | [], e, _ => simp at e; omega
            | [a], e, _ => simp at e; omega
            | a :: b :: r, _, _ => exact joinC_two
          go_wp2_with fail
          refine (String_any w.heap.size w.heap.size _ _ A3 hne).mono ?_; rintro e w6 ⟨rfl, hb6⟩
          have B6 := box (B3.out.trans hb6)
          clear hb6
          go_wp2
          go_ret
          exact ⟨by rw [HJ.out]; rfl, B6.out⟩
end
section
open Go.RowKit
/-- texts with a space between -/
def joinSp : List (List UInt8) → List UInt8
  | [] => []
  | x :: r => x ++ r.flatMap fun y => 32 :: y
def joinSB (L : List ByteArray) : ByteArray := bs (joinSp (L.map fun x => x.data.toList))
theorem joinSp_more {V : List (List UInt8)} {k : Nat} (h : k < V.length) : joinSp (V.take (k + 1)) = if k = 0 then V[k] else joinSp (V.take k) ++ [32] ++ V[k] := by
  cases V with
  | nil => simp at h
  | cons x r =>
    cases k with
    | zero => simp [joinSp]
    | succ k =>
      have hk : k < r.length := by simpa using h
      rw [if_neg (by omega), List.take_succ_cons, List.take_succ_cons, List.getElem_cons_succ]
      show x ++ (r.take (k + 1)).flatMap _ = (x ++ (r.take k).flatMap _ ++ [32]) ++ r[k]
      rw [take_next hk, List.flatMap_append]
      simp
theorem joinW_sp (V : List (List UInt8)) : joinW V = joinSp (V.map wordW) := by
  cases V with
  | nil => rfl
  | cons x r =>
    show wordW x ++ r.flatMap (fun y => 32 :: wordW y) = wordW x ++ (r.map wordW).flatMap (fun y => 32 :: y)
    rw [List.flatMap_map]
theorem joinSp_len {ms : List (List UInt8)} (hz : ∀ x ∈ ms, x.length ≤ 65536) : ∀ k, (joinSp (ms.take k)).length ≤ k * 65540
  | 0 => by simp [joinSp]
  | k + 1 => by
    have ih := joinSp_len hz k
    by_cases h : k < ms.length
    · have := hz ms[k] (List.getElem_mem h)
      rw [joinSp_more h]
      split
      · omega
      · simp only [List.length_append, List.length_cons, List.length_nil]; omega
    · have e : ms.take (k + 1) = ms.take k := by rw [List.take_of_length_le (by omega), List.take_of_length_le (by omega)]
      rw [e]
      exact Nat.le_trans ih (Nat.mul_le_mul_right _ (Nat.le_succ k))
theorem joinSp_two {a b : List UInt8} {r : List (List UInt8)} : joinSp (a :: b :: r) ≠ [] := by
  unfold joinSp
  simp
theorem Jsp0_any (a : Option Addr) (cap : Nat) (w : World) :
    Calls Tryz.prog 75 #[.slice a 0 cap, .string ⟨#[32]⟩] w fun e w' => e = .returned (.string ⟨#[]⟩) ∧ w = w' := by
  go_enter Tryz.func75, Tryz.ntmps75
  go_wp2
  go_ret
  exact ⟨rfl, rfl⟩
theorem Jsp1_any (q off cap : Nat) (x : ByteArray) (w : World) (c0 : w.cell? ⟨q, off, none⟩ = some (.string x)) :
    Calls Tryz.prog 75 #[.slice (some ⟨q, off, none⟩) 1 cap, .string ⟨#[32]⟩] w fun e w' => e = .returned (.string x) ∧ w = w' := by
  go_enter Tryz.func75, Tryz.ntmps75
  go_wp2
  go_ret
  exact ⟨rfl, rfl⟩
def Js1 (L : List ByteArray) (n i : Value) : Prop := ∃ k : Nat, k ≤ L.length ∧ i = .int .i64 k ∧ n = .int .i64 ((L.length - 1 + lenT L k : Nat) : Int)
def Js2 (ms : List (List UInt8)) (B : Nat) (w : World) (i : Value) (wr : World) : Prop := ∃ k : Nat, k + 1 ≤ ms.length ∧ i = .int .i64 k ∧ Box (Bld wr B B (joinSp (ms.take (k + 1)))) ∧ Box (Below B w wr)
set_option maxHeartbeats 2000000 in
theorem JspN_any (q off cap : Nat) (L : List ByteArray) (w : World) (h2 : 2 ≤ L.length) (hl : L.length ≤ 65536) (hcap : L.length ≤ cap) (hz : Box (∀ x ∈ L, x.size ≤ 65536)) (hF : Box (Ss w (some ⟨q, off, none⟩) L)) :
    Calls Tryz.prog 75 #[.slice (some ⟨q, off, none⟩) L.length cap, .string ⟨#[32]⟩] w fun e w' => e = .returned (.string (joinSB L)) ∧ Below w.heap.size w w' := by
  have hdv : ¬ (9223372036854775807 / ((L.length : Int) - 1) ≤ 1) := by
    have : 3 ≤ 9223372036854775807 / ((L.length : Int) - 1) := by
      rw [Int.le_ediv_iff_mul_le (by omega)]; omega
    omega
  have hne0 : ((L.length : Int) == 0) = false := beq_eq_false_iff_ne.2 (by omega)
  have hne1 : ((L.length : Int) == 1) = false := beq_eq_false_iff_ne.2 (by omega)
  go_enter Tryz.func75, Tryz.ntmps75
  go_wp2_with fail
  go_loop [5, 41] (fun n i => Js1 L n i) (fun _ i => L.length - (intOf i).toNat)
  case atStart => exact ⟨0, Nat.zero_le _, rfl, by unfold lenT; simp; omega⟩
  case round =>
    obtain ⟨k, hk, rfl, rfl⟩ := hrel
    have hlz := lenT_le hz.out k
    by_cases hlt : k < L.length
    · obtain ⟨q', off', e, c0⟩ := hF.out k hlt
      cases e
      have hx := hz.out L[k] (List.getElem_mem hlt)
      have HN := box (lenT_next hlt)
      obtain ⟨A, hA⟩ : ∃ A, lenT L k = A := ⟨_, rfl⟩
      have HA := box hA
      rw [hA] at hlz ⊢
      clear hA
      go_wp2
      go_round
      case rel => exact ⟨k + 1, by omega, by go_num, by rw [HN.out, HA.out]; go_num⟩
      case measure => simp [intOf]; omega
    · obtain rfl : k = L.length := by omega
      obtain ⟨n, hn⟩ : ∃ n, L.length - 1 + lenT L L.length = n := ⟨_, rfl⟩
      have hn8 : n ≤ 281474976710656 := by omega
      rw [hn]
      clear hn hlz
      obtain ⟨ms, hms⟩ : ∃ ms, (L.map fun x => x.data.toList) = ms := ⟨_, rfl⟩
      have HJ : Box (joinSB L = bs (joinSp ms)) := box (by unfold joinSB; rw [hms])
      have hml : ms.length = L.length := by rw [← hms, List.length_map]
      have HME : Box (∀ k (h : k < L.length), ms[k]'(by omega) = L[k].data.toList) := box (fun k h => by simp only [← hms, List.getElem_map])
      have HML : Box (∀ x ∈ ms, x.length ≤ 65536) := box (fun x hx => by
        rw [← hms] at hx
        obtain ⟨y, hy, rfl⟩ := List.mem_map.mp hx
        have := hz.out y hy
        simpa using this)
      clear hms
      have hq : q < w.heap.size := by
        obtain ⟨q', off', e, c0⟩ := hF.out 0 (by omega)
        cases e
        exact cell_lt c0
      go_wp2_with fail
      refine (Grow_new w.heap.size w.heap.size n _ (Nat.le_refl _) (heap_alloc_new w _) (by simp) hn8).mono ?_; rintro e w1 ⟨rfl, hA1, hb1⟩
      have A1 : Box (Bld w1 w.heap.size w.heap.size []) := box (.inr hA1)
      have B1 := box ((below_new w _).trans hb1)
      have hs1 := B1.out.size
      clear hA1 hb1
      have hl0 : 0 < L.length := by omega
      obtain ⟨q', off', e, c0⟩ := (hF.out.below B1.out) 0 hl0
      cases e
      rw [Nat.add_zero] at c0
      have hx0 := hz.out L[0] (List.getElem_mem hl0)
      go_wp2_with fail
      refine (WriteString_any w.heap.size w.heap.size [] L[0] _ A1 (by rw [List.length_nil]; omega) hs1).mono ?_; rintro e w2 ⟨rfl, hA2, hb2⟩
      have A2 : Box (Bld w2 w.heap.size w.heap.size (joinSp (ms.take 1))) := box (.inr (by
        rw [joinSp_more (k := 0) (by omega), if_pos rfl, HME.out 0 hl0]; exact hA2))
      have B2 := box (B1.out.trans hb2)
      clear hA2 hb2 c0
      go_wp2_with fail
      go_loopw [65] (fun i wr => Js2 ms w.heap.size w i wr) (fun i _ => L.length - (intOf i).toNat)
      case atStart => exact ⟨0, by omega, rfl, A2, B2⟩
      case round =>
        obtain ⟨k, hk, rfl, A3, B3⟩ := hrel
        have hs3 := B3.out.size
        have hjl := joinSp_len HML.out (k + 1)
        by_cases hlt : k + 1 < L.length
        · obtain ⟨q', off', e, c0⟩ := (hF.out.below B3.out) (k + 1) hlt
          cases e
          rw [show off + (k + 1) = off + 1 + k from by omega] at c0
          have hxk := hz.out L[k + 1] (List.getElem_mem hlt)
          go_wp2_with fail
          refine (WriteString_any w.heap.size w.heap.size _ ⟨#[32]⟩ _ A3 (by show _ + 1 ≤ _; omega) hs3).mono ?_; rintro e w4 ⟨rfl, hA4, hb4⟩
          have A4 : Box (Bld w4 w.heap.size w.heap.size (joinSp (ms.take (k + 1)) ++ [32])) := box (.inr hA4)
          have B4 := box (B3.out.trans hb4)
          have hs4 := B4.out.size
          clear hA4 hb4
          go_wp2_with fail
          refine (WriteString_any w.heap.size w.heap.size _ L[k + 1] _ A4 (by rw [List.length_append]; show _ + 1 + _ ≤ _; omega) hs4).mono ?_; rintro e w5 ⟨rfl, hA5, hb5⟩
          have A5 : Box (Bld w5 w.heap.size w.heap.size (joinSp (ms.take (k + 1 + 1)))) := box (.inr (by
            rw [joinSp_more (k := k + 1) (by omega), if_neg (by omega), HME.out (k + 1) hlt]; exact hA5))
          have B5 := box (B4.out.trans hb5)
          clear hA5 hb5 c0
          go_wp2
          go_roundw
          case rel => exact ⟨k + 1, by omega, by go_num, A5, B5⟩
          case measure => simp [intOf]; omega
        · have hfull : ms.take (k + 1) = ms := List.take_of_length_le (by omega)
          rw [hfull] at A3
          have hne : joinSp ms ≠ [] := by
            match ms, hml, h2 with
            | [], e, _ => simp at e; omega
            | [a], e, _ => simp at e; omega
            | a :: b :: r, _, _ => exact joinSp_two
          go_wp2_with fail
          refine (String_any w.heap.size w.heap.size _ _ A3 hne).mono ?_; rintro e w6 ⟨rfl, hb6⟩
          have B6 := box (B3.out.trans hb6)
          clear hb6
          go_wp2
          go_ret
          exact ⟨by rw [HJ.out]; rfl, B6.out⟩
end
end Go.Proofs.YtodbmdekgfcjpaaGreat.Asc
