/- The contracts of package cachecontrol's setFirst, cutName, argument, number. -/
import Derived.Test.YtlcojfkkeommoaaCtlMem
import Derived.Test.YtlcojfkkeommoaaPreAny
import Derived.Test.YtlcojfkkeommoaaAscNum
import Derived.Test.YtlcojfkkeommoaaAscUnq
import Derived.Test.YtlcojfkkeommoaaAscLow
import Derived.Test.YtlcojfkkeommoaaAscFold
import Derived.LoopTactic
import Derived.BigQuiet
import Derived.Deep.RegionHeld3
set_option linter.unusedVariables false
set_option linter.unusedSimpArgs false
set_option maxRecDepth 100000
namespace Go.Proofs.Ytlcojfkkeommoaa.Asc
open Go.RowKit

theorem bs_all22 (s : ByteArray) : bs s.data.toList = s := by unfold bs; simp
theorem token22_is {s : ByteArray} {b : Bool} {w : World} (hs : s.size ≤ 65536) (h : Box (tokL s.data.toList = b)) :
    Calls Try.prog 48 #[.string s] w fun e w' => e = .returned (.bool b) ∧ w = w' :=
  (Token_any s w (by unfold maxLen; omega)).mono fun e w' ⟨h1, h2⟩ => ⟨by rw [h1, h.out], h2⟩
theorem unq22_is {s : ByteArray} {o : Option (List UInt8)} {w : World} (hs : s.size ≤ 65536) (h : Box (unqL s.data.toList = o)) :
    Calls Try.prog 63 #[.string s] w fun e w' => e = .returned (optV o) ∧ Below w.heap.size w w' :=
  (Unquote_any s w (by omega)).mono fun e w' ⟨h1, h2⟩ => ⟨by rw [h1, h.out], h2⟩
theorem low22_is {s x : ByteArray} {w : World} (hs : s.size ≤ 65536) (h : Box (bs (lowL s.data.toList) = x)) :
    Calls Try.prog 49 #[.string s] w fun e w' => e = .returned (.string x) ∧ Below w.heap.size w w' :=
  (Lower_any s w (by omega)).mono fun e w' ⟨h1, h2⟩ => ⟨by rw [h1, ← h.out]; rfl, h2⟩
theorem num22_is {s : ByteArray} {o : Option Int} {w : World} (hs : s.size ≤ 65536) (h : Box (numL s.data.toList = o)) :
    Calls Try.prog 50 #[.string s] w fun e w' => e = .returned (numT o) ∧ w = w' :=
  (Number_any s w (by unfold maxLen; omega)).mono fun e w' ⟨h1, h2⟩ => ⟨by rw [h1, h.out], h2⟩
theorem setFirst_yes (g i : Nat) (x : Int) (w : World) (c0 : w.cell? ⟨g, i, none⟩ = some (.int .i64 (-1))) (f0 : w.frozen? ⟨g, i, none⟩ = false) :
    Calls Try.prog 37 #[.pointer (some ⟨g, i, none⟩), .int .i64 x] w fun e w' => e = .returned (.tuple #[]) ∧ w' = w.setCell ⟨g, i, none⟩ (.int .i64 x) := by
  go_enter Try.func37, Try.ntmps37
  go_wp2
  go_end0
  exact ⟨rfl, rfl⟩
theorem setFirst_no (g i : Nat) (x v : Int) (w : World) (c0 : w.cell? ⟨g, i, none⟩ = some (.int .i64 v)) (hv : (v == -1) = false) :
    Calls Try.prog 37 #[.pointer (some ⟨g, i, none⟩), .int .i64 x] w fun e w' => e = .returned (.tuple #[]) ∧ w' = w := by
  go_enter Try.func37, Try.ntmps37
  go_wp2
  go_end0
  exact ⟨rfl, rfl⟩
theorem numD_alt {l : List UInt8} (h : l ≠ []) (bare bad : Int) : numD bare bad l = (numL ((argD l).getD [])).getD bad := by
  unfold numD
  rw [if_neg h]
  cases argD l with
  | none => rfl
  | some a => rfl
theorem argD_cons (c : UInt8) (a : List UInt8) : argD (c :: a) = if c = 61 then (if tokL a = true then some a else unqL a) else none := rfl
theorem argD_not {l : List UInt8} (h : pre21 l [61] = false) : argD l = none := by
  unfold pre21 at h
  cases l with
  | nil => rfl
  | cons c a =>
    rw [argD_cons, if_neg]
    intro e; subst e
    simp at h
theorem argD_yes {l : List UInt8} (h : pre21 l [61] = true) : argD l = if tokL (l.drop 1) = true then some (l.drop 1) else unqL (l.drop 1) := by
  unfold pre21 at h
  cases l with
  | nil => simp at h
  | cons c a =>
    have : c = 61 := by simpa using h
    subst this
    rfl
theorem argument_any (s : ByteArray) (w : World) (hs : s.size ≤ 65000) :
    Calls Try.prog 51 #[.string s] w fun e w' => e = .returned (.string (bs ((argD s.data.toList).getD []))) ∧ Below w.heap.size w w' := by
  have hs4 : s.size ≤ 4000000 := by omega
  have h1 : (⟨#[61]⟩ : ByteArray).size ≤ 65536 := by decide
  rcases hp : pre21 s.data.toList [61] with _ | _
  · have HP : Box (pre21 s.data.toList (⟨#[61]⟩ : ByteArray).data.toList = false) := box hp
    have HA := box (argD_not hp)
    clear hp
    go_enter Try.func51, Try.ntmps51
    go_wp2_with fail
    refine (cutPre21_no hs4 h1 HP).mono ?_; rintro e w1 ⟨rfl, rfl⟩
    go_wp2
    go_ret
    exact ⟨by rw [HA.out]; rfl, Below.refl _ _⟩
  · have HP : Box (pre21 s.data.toList (⟨#[61]⟩ : ByteArray).data.toList = true) := box hp
    have hA := argD_yes hp
    obtain ⟨x, hx⟩ : ∃ x, s.extract (⟨#[61]⟩ : ByteArray).size s.size = x := ⟨_, rfl⟩
    have HX := box hx
    have hxl : x.data.toList = s.data.toList.drop 1 := by rw [← hx]; exact ext_drop21 1
    have hxs : x.size ≤ 65536 := by
      have e1 : x.data.toList.length = x.size := by simp
      have e2 : s.data.toList.length = s.size := by simp
      rw [← e1, hxl, List.length_drop]; omega
    rw [← hxl] at hA
    clear hp hx hxl
    rcases ht : tokL x.data.toList with _ | _
    · rw [ht, if_neg (by decide)] at hA
      have HT := box ht
      obtain ⟨o, ho⟩ : ∃ o, unqL x.data.toList = o := ⟨_, rfl⟩
      have HO := box ho
      rw [ho] at hA
      have HA := box hA
      clear ht ho hA
      rcases o with _ | u
      · go_enter Try.func51, Try.ntmps51
        go_wp2_with fail
        refine (cutPre21_yes hs4 h1 HP HX).mono ?_; rintro e w1 ⟨rfl, rfl⟩
        go_wp2_with fail
        refine (token22_is hxs HT).mono ?_; rintro e w1 ⟨rfl, rfl⟩
        go_wp2_with fail
        refine (unq22_is hxs HO).mono ?_; rintro e w2 ⟨rfl, hb⟩
        have B := box hb
        clear hb
        unfold optV
        go_wp2
        go_ret
        exact ⟨by rw [HA.out]; rfl, B.out⟩
      · go_enter Try.func51, Try.ntmps51
        go_wp2_with fail
        refine (cutPre21_yes hs4 h1 HP HX).mono ?_; rintro e w1 ⟨rfl, rfl⟩
        go_wp2_with fail
        refine (token22_is hxs HT).mono ?_; rintro e w1 ⟨rfl, rfl⟩
        go_wp2_with fail
        refine (unq22_is hxs HO).mono ?_; rintro e w2 ⟨rfl, hb⟩
        have B := box hb
        clear hb
        unfold optV
        go_wp2
        go_ret
        exact ⟨by rw [HA.out]; rfl, B.out⟩
    · rw [ht, if_pos rfl] at hA
      have HT := box ht
      have HA := box hA
      clear ht hA
      go_enter Try.func51, Try.ntmps51
      go_wp2_with fail
      refine (cutPre21_yes hs4 h1 HP HX).mono ?_; rintro e w1 ⟨rfl, rfl⟩
      go_wp2_with fail
      refine (token22_is hxs HT).mono ?_; rintro e w1 ⟨rfl, rfl⟩
      go_wp2
      go_ret
      exact ⟨by rw [HA.out]; exact congrArg (fun z => Ending.returned (.string z)) (bs_all22 x).symm, Below.refl _ _⟩
theorem argD_len (l : List UInt8) : ((argD l).getD []).length ≤ l.length := by
  cases l with
  | nil => exact Nat.le_refl _
  | cons c a =>
    rw [argD_cons]
    by_cases h1 : c = 61
    · rw [if_pos h1]
      by_cases h2 : tokL a = true
      · rw [if_pos h2]; simp
      · rw [if_neg h2]
        cases hu : unqL a with
        | none => simp
        | some u => have := unqL_len22 hu; simp; omega
    · rw [if_neg h1]; simp
theorem number_any (s : ByteArray) (bare bad : Int) (w : World) (hs : s.size ≤ 65000) :
    Calls Try.prog 38 #[.string s, .int .i64 bare, .int .i64 bad] w fun e w' => e = .returned (.int .i64 (numD bare bad s.data.toList)) ∧ Below w.heap.size w w' := by
  by_cases hn : s.data.toList = []
  · have h0 : (s.toList == []) = true := by rw [toList_data, hn]; rfl
    have HN : Box (numD bare bad s.data.toList = bare) := box (by unfold numD; rw [if_pos hn])
    clear hn
    go_enter Try.func38, Try.ntmps38
    go_wp2
    go_ret
    exact ⟨by rw [HN.out]; rfl, Below.refl _ _⟩
  · have h0 : (s.toList == []) = false := by rw [toList_data, beq_eq_false_iff_ne]; exact hn
    have hD := numD_alt hn bare bad
    have hl := argD_len s.data.toList
    have hA := argument_any s w hs
    obtain ⟨a, ha⟩ : ∃ a, bs ((argD s.data.toList).getD []) = a := ⟨_, rfl⟩
    have has : a.size ≤ 65536 := by
      have e1 : a.data.toList.length = a.size := by simp
      have e2 : s.data.toList.length = s.size := by simp
      rw [← e1, ← ha, bs_toList]; omega
    have hal : (argD s.data.toList).getD [] = a.data.toList := by rw [← ha, bs_toList]
    rw [hal] at hD
    rw [ha] at hA
    have HA := box hA
    obtain ⟨o, ho⟩ : ∃ o, numL a.data.toList = o := ⟨_, rfl⟩
    have HO := box ho
    rw [ho] at hD
    have HD := box hD
    clear hn hD hl hA ha hal ho hs
    rcases o with _ | v
    · go_enter Try.func38, Try.ntmps38
      go_wp2_with fail
      refine (HA.out).mono ?_; rintro e w1 ⟨rfl, hb⟩
      have B := box hb
      clear hb
      go_wp2_with fail
      refine (num22_is has HO).mono ?_; rintro e w2 ⟨rfl, rfl⟩
      unfold numT numV
      go_wp2
      go_ret
      exact ⟨by rw [HD.out]; rfl, B.out⟩
    · go_enter Try.func38, Try.ntmps38
      go_wp2_with fail
      refine (HA.out).mono ?_; rintro e w1 ⟨rfl, hb⟩
      have B := box hb
      clear hb
      go_wp2_with fail
      refine (num22_is has HO).mono ?_; rintro e w2 ⟨rfl, rfl⟩
      unfold numT numV
      go_wp2
      go_ret
      exact ⟨by rw [HD.out]; rfl, B.out⟩
theorem number_is {s : ByteArray} {bare bad n : Int} {w : World} (hs : s.size ≤ 65000) (h : Box (numD bare bad s.data.toList = n)) :
    Calls Try.prog 38 #[.string s, .int .i64 bare, .int .i64 bad] w fun e w' => e = .returned (.int .i64 n) ∧ Below w.heap.size w w' :=
  (number_any s bare bad w hs).mono fun e w' ⟨h1, h2⟩ => ⟨by rw [h1, h.out], h2⟩
theorem one_ext {s : ByteArray} {k : Nat} (h : k < s.size) : (s.extract k (k + 1)).data.toList = [s[k]] := by
  rw [ext_bs, bs_toList, take_snoc s k h, List.drop_append_of_le_length (by simp; omega), List.drop_eq_nil_of_le (by simp; omega)]; rfl
theorem tok_one22 (c : UInt8) : tokL [c] = tokI c.toNat := by unfold tokL allI; simp
/-- the first k bytes are of tokens -/
def NamAt (l : List UInt8) (k : Nat) : Prop := allI tokI (l.take k) = true
theorem cutName_any (s : ByteArray) (w : World) (hs : s.size ≤ 65000) :
    Calls Try.prog 36 #[.string s] w fun e w' => e = .returned (.tuple #[.string (bs (lowL (namD s.data.toList))), .string (bs (rstD s.data.toList))]) ∧ Below w.heap.size w w' := by
  have hz : s.data.toList.length = s.size := by simp
  go_enter Try.func36, Try.ntmps36
  go_wp2
  go_loop [4] (fun i => ∃ k : Nat, k ≤ s.size ∧ i = .int .i64 k ∧ Box (NamAt s.data.toList k)) (fun i => s.size - (intOf i).toNat)
  case atStart => exact ⟨0, Nat.zero_le _, rfl, box rfl⟩
  case round =>
    obtain ⟨k, hk, rfl, hall⟩ := hrel
    by_cases hlt : k < s.size
    · have hki : (k : Int) < (s.size : Int) := by omega
      have hxl := one_ext hlt
      have hxs : (s.extract k (k + 1)).size ≤ 65536 := by
        have e1 : (s.extract k (k + 1)).data.toList.length = (s.extract k (k + 1)).size := Array.length_toList
        rw [← e1, hxl]; simp
      rcases hp : tokI (s[k].toNat) with _ | _
      · have HT : Box (tokL (s.extract k (k + 1)).data.toList = false) := box (by rw [hxl, tok_one22]; exact hp)
        have HC := nam_cut (l := s.data.toList) (k := k) (by omega) hall.out (fun h => by rw [Array.getElem_toList]; exact hp)
        obtain ⟨y, hy⟩ : ∃ y, s.extract 0 k = y := ⟨_, rfl⟩
        obtain ⟨z, hzz⟩ : ∃ z, s.extract k s.size = z := ⟨_, rfl⟩
        have hyl : namD s.data.toList = y.data.toList := by rw [← hy, ext_bs, bs_toList, List.drop_zero]; exact HC.1
        have hzl : rstD s.data.toList = z.data.toList := by rw [← hzz, ext_drop21]; exact HC.2
        have hys : y.size ≤ 65536 := by
          have e1 : y.data.toList.length = y.size := by simp
          have := nam_len s.data.toList
          rw [← e1, ← hyl]; omega
        obtain ⟨q, hq⟩ : ∃ q, bs (lowL y.data.toList) = q := ⟨_, rfl⟩
        have HQ := box hq
        have HL : Box (bs (lowL (namD s.data.toList)) = q ∧ bs (rstD s.data.toList) = z) := box ⟨by rw [hyl]; exact hq, by rw [hzl, bs_all22]⟩
        have b0 : (0 : Int) ≤ (k : Int) := by omega
        have b1 : (k : Int) ≤ (s.size : Int) := by omega
        clear hp hxl HC hyl hzl hq hz hall
        go_wp2_with (go_at_call 48; refine (token22_is hxs HT).mono ?_; rintro e w' ⟨rfl, rfl⟩)
        go_region_held3 (fun _ => True) (trivial) (first | (go_at_call 49; refine (low22_is hys HQ).mono ?_; rintro e w1 ⟨rfl, hb1⟩))
        go_wp2
        go_ret2
        exact ⟨by rw [HL.out.1, HL.out.2]; rfl, ((Below.refl w.heap.size w).drew).trans (hb1.mono ((Below.refl w.heap.size w).drew).size)⟩
      · have HT : Box (tokL (s.extract k (k + 1)).data.toList = true) := box (by rw [hxl, tok_one22]; exact hp)
        have HN : Box (NamAt s.data.toList (k + 1)) := box (all_more hall.out hlt hp)
        clear hp hxl hz hall
        go_wp2_with (go_at_call 48; refine (token22_is hxs HT).mono ?_; rintro e w' ⟨rfl, rfl⟩)
        go_round
        case rel => exact ⟨k + 1, by omega, by go_num, HN⟩
        case measure => simp [intOf]; omega
    · have hki : ¬ (k : Int) < (s.size : Int) := by omega
      have HC := nam_cut (l := s.data.toList) (k := k) (by omega) hall.out (fun h => absurd h (by rw [hz]; exact hlt))
      have hxl := hz
      have hp := hz
      obtain ⟨y, hy⟩ : ∃ y, s.extract 0 k = y := ⟨_, rfl⟩
      obtain ⟨z, hzz⟩ : ∃ z, s.extract k s.size = z := ⟨_, rfl⟩
      have hyl : namD s.data.toList = y.data.toList := by rw [← hy, ext_bs, bs_toList, List.drop_zero]; exact HC.1
      have hzl : rstD s.data.toList = z.data.toList := by rw [← hzz, ext_drop21]; exact HC.2
      have hys : y.size ≤ 65536 := by
        have e1 : y.data.toList.length = y.size := by simp
        have := nam_len s.data.toList
        rw [← e1, ← hyl]; omega
      obtain ⟨q, hq⟩ : ∃ q, bs (lowL y.data.toList) = q := ⟨_, rfl⟩
      have HQ := box hq
      have HL : Box (bs (lowL (namD s.data.toList)) = q ∧ bs (rstD s.data.toList) = z) := box ⟨by rw [hyl]; exact hq, by rw [hzl, bs_all22]⟩
      have b0 : (0 : Int) ≤ (k : Int) := by omega
      have b1 : (k : Int) ≤ (s.size : Int) := by omega
      clear hp hxl HC hyl hzl hq hz hall
      go_wp2
      go_region_held3 (fun _ => True) (trivial) (first | (go_at_call 49; refine (low22_is hys HQ).mono ?_; rintro e w1 ⟨rfl, hb1⟩))
      go_wp2
      go_ret2
      exact ⟨by rw [HL.out.1, HL.out.2]; rfl, ((Below.refl w.heap.size w).drew).trans (hb1.mono ((Below.refl w.heap.size w).drew).size)⟩
theorem cutName_is {s x r : ByteArray} {w : World} (hs : s.size ≤ 65000) (hx : Box (bs (lowL (namD s.data.toList)) = x)) (hr : Box (bs (rstD s.data.toList) = r)) :
    Calls Try.prog 36 #[.string s] w fun e w' => e = .returned (.tuple #[.string x, .string r]) ∧ Below w.heap.size w w' :=
  (cutName_any s w hs).mono fun e w' ⟨h1, h2⟩ => ⟨by rw [h1, hx.out, hr.out], h2⟩

end Go.Proofs.Ytlcojfkkeommoaa.Asc
