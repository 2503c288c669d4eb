/- Merged texts: AscFold CtlMine CtlMine2 LisPc LstMem LstIdx LstOwn. -/
import Derived.Test.YteemoibikkmlbaaDoorZs02
import Derived.Test.YteemoibikkmlbaaDoorZs03
import Derived.Test.YteemoibikkmlbaaDoorZs04
import Derived.BigQuiet
import Derived.Deep.AppendLies
import Derived.Deep.QuietTactic
import Derived.Deep.RegionHeld3
import Derived.Laws.AppendOwnNone
import Derived.LoopTactic
set_option linter.unusedVariables false
set_option linter.unusedSimpArgs false
set_option maxRecDepth 100000
namespace Go.Proofs.YteemoibikkmlbaaDoor.Asc
section
open Go.RowKit
theorem Fold_any (a b : ByteArray) (w : World) (ha : a.size ≤ maxLen) (hb : b.size ≤ maxLen) :
    Calls Tryd.prog 67 #[.string a, .string b] w fun e w' => e = .returned (.bool (foldL a.data.toList b.data.toList)) ∧ Below w.heap.size w w' := by
  unfold maxLen at ha hb
  by_cases hab : a.size = b.size
  · have hne : ((a.size : Int) != (b.size : Int)) = false := by simp [hab]
    have HAB := Lib.hid hab
    clear hab
    go_enter Tryd.func67, Tryd.ntmps67
    go_wp2
    go_loopw [5, 13] (fun _ i wr => ∃ k : Nat, k ≤ a.size ∧ i = .int .i64 k ∧ lowL (a.data.toList.take k) = lowL (b.data.toList.take k) ∧ Below w.heap.size w wr) (fun _ i _ => a.size - (intOf i).toNat)
    case atStart => exact ⟨0, Nat.zero_le _, rfl, rfl, Below.refl _ _⟩
    case round =>
      obtain ⟨k, hk, rfl, hall, hbel⟩ := hrel
      have HH := Lib.hid hall
      clear hall
      by_cases hlt : k < a.size
      · have hltb : k < b.size := by have := HAB.out; omega
        have ba := byte_bd a k hlt
        have bb := byte_bd b k hltb
        by_cases hc : lowI a[k].toNat = lowI b[k].toNat
        · have HC := Lib.hid (fold_more HH.out hlt hltb hc)
          have hcn : (lowI a[k].toNat != lowI b[k].toNat) = false := by simp [hc]
          clear hc
          go_wp2
          go_quiet ((go_at_call 85; exact Calls.quiet_of_same ((lowerByte_any _ _ (by omega) (by omega)).mono fun e w' ⟨h1, h2⟩ => ⟨h1, h2.symm⟩)))
          go_wp2
          go_roundw
          case rel => exact ⟨k + 1, by omega, by go_num, HC.out, hbel.trans ⟨rfl, rfl, rfl, Nat.le_refl _, fun _ _ => rfl⟩⟩
          case measure => simp [intOf]; omega
        · have HC := Lib.hid (fold_not hlt hltb hc)
          have hcn : (lowI a[k].toNat != lowI b[k].toNat) = true := by simp [hc]
          clear hc
          go_wp2
          go_quiet ((go_at_call 85; exact Calls.quiet_of_same ((lowerByte_any _ _ (by omega) (by omega)).mono fun e w' ⟨h1, h2⟩ => ⟨h1, h2.symm⟩)))
          go_wp2
          go_ret
          exact ⟨ret_bool HC.out.symm, hbel.trans ⟨rfl, rfl, rfl, Nat.le_refl _, fun _ _ => rfl⟩⟩
      · go_wp2
        go_ret
        exact ⟨ret_bool (fold_end HH.out (by omega) (by have := HAB.out; omega)).symm, hbel⟩
  · have hne : ((a.size : Int) != (b.size : Int)) = true := by simp; omega
    have HAB := Lib.hid hab
    clear hab
    go_enter Tryd.func67, Tryd.ntmps67
    go_wp2
    go_ret
    exact ⟨ret_bool (fold_len HAB.out).symm, Below.refl _ _⟩
theorem rFold_any (a b : ByteArray) (w : World) (ha : a.size ≤ 4294967296) (hb : b.size ≤ 4294967296) :
    Calls Tryd.prog 54 #[.string a, .string b] w fun e w' => e = .returned (.bool (foldL a.data.toList b.data.toList)) ∧ Below w.heap.size w w' := by
  by_cases hab : a.size = b.size
  · have hne : ((a.size : Int) == (b.size : Int)) = true := by simp [hab]
    have HAB := Lib.hid hab
    clear hab
    go_enter Tryd.func54, Tryd.ntmps54
    go_wp2_with fail
    refine (rLower_any _ _ ha).mono ?_; rintro e w1 ⟨rfl, hb1⟩
    go_wp2_with fail
    refine (rLower_any _ _ hb).mono ?_; rintro e w2 ⟨rfl, hb2⟩
    go_wp2
    go_ret
    exact ⟨ret_bool (by unfold foldL; rw [Bool.eq_iff_iff]; simp), hb1.trans (hb2.mono hb1.size)⟩
  · have hne : ((a.size : Int) == (b.size : Int)) = false := by simp; omega
    have HAB := Lib.hid hab
    clear hab
    go_enter Tryd.func54, Tryd.ntmps54
    go_wp2
    go_ret
    exact ⟨ret_bool (fold_len HAB.out).symm, Below.refl _ _⟩
end
section
open Go.RowKit
theorem bs_all22 (s : ByteArray) : bs s.data.toList = s := by unfold bs; simp
theorem token22_is {s : ByteArray} {b : Bool} {w : World} (hs : s.size ≤ 65536) (h : Box (tokL s.data.toList = b)) :
    Calls Tryd.prog 63 #[.string s] w fun e w' => e = .returned (.bool b) ∧ w = w' :=
  (Token_any s w (by unfold maxLen; omega)).mono fun e w' ⟨h1, h2⟩ => ⟨by rw [h1, h.out], h2⟩
theorem unq22_is {s : ByteArray} {o : Option (List UInt8)} {w : World} (hs : s.size ≤ 65536) (h : Box (unqL s.data.toList = o)) :
    Calls Tryd.prog 87 #[.string s] w fun e w' => e = .returned (optV o) ∧ Below w.heap.size w w' :=
  (Unquote_any s w (by omega)).mono fun e w' ⟨h1, h2⟩ => ⟨by rw [h1, h.out], h2⟩
theorem low22_is {s x : ByteArray} {w : World} (hs : s.size ≤ 65536) (h : Box (bs (lowL s.data.toList) = x)) :
    Calls Tryd.prog 64 #[.string s] w fun e w' => e = .returned (.string x) ∧ Below w.heap.size w w' :=
  (Lower_any s w (by omega)).mono fun e w' ⟨h1, h2⟩ => ⟨by rw [h1, ← h.out]; rfl, h2⟩
theorem num22_is {s : ByteArray} {o : Option Int} {w : World} (hs : s.size ≤ 65536) (h : Box (numL s.data.toList = o)) :
    Calls Tryd.prog 38 #[.string s] w fun e w' => e = .returned (numT o) ∧ w = w' :=
  (Number_any s w (by unfold maxLen; omega)).mono fun e w' ⟨h1, h2⟩ => ⟨by rw [h1, h.out], h2⟩
theorem setFirst_yes (g i : Nat) (x : Int) (w : World) (c0 : w.cell? ⟨g, i, none⟩ = some (.int .i64 (-1))) (f0 : w.frozen? ⟨g, i, none⟩ = false) :
    Calls Tryd.prog 44 #[.pointer (some ⟨g, i, none⟩), .int .i64 x] w fun e w' => e = .returned (.tuple #[]) ∧ w' = w.setCell ⟨g, i, none⟩ (.int .i64 x) := by
  go_enter Tryd.func44, Tryd.ntmps44
  go_wp2
  go_end0
  exact ⟨rfl, rfl⟩
theorem setFirst_no (g i : Nat) (x v : Int) (w : World) (c0 : w.cell? ⟨g, i, none⟩ = some (.int .i64 v)) (hv : (v == -1) = false) :
    Calls Tryd.prog 44 #[.pointer (some ⟨g, i, none⟩), .int .i64 x] w fun e w' => e = .returned (.tuple #[]) ∧ w' = w := by
  go_enter Tryd.func44, Tryd.ntmps44
  go_wp2
  go_end0
  exact ⟨rfl, rfl⟩
theorem numD_alt {l : List UInt8} (h : l ≠ []) (bare bad : Int) : numD bare bad l = (numL ((argD l).getD [])).getD bad := by
  unfold numD
  rw [if_neg h]
  cases argD l with
  | none => rfl
  | some a => rfl
theorem argD_cons (c : UInt8) (a : List UInt8) : argD (c :: a) = if c = 61 then (if tokL a = true then some a else unqL a) else none := rfl
theorem argD_not {l : List UInt8} (h : pre21 l [61] = false) : argD l = none := by
  unfold pre21 at h
  cases l with
  | nil => rfl
  | cons c a =>
    rw [argD_cons, if_neg]
    intro e; subst e
    simp at h
theorem argD_yes {l : List UInt8} (h : pre21 l [61] = true) : argD l = if tokL (l.drop 1) = true then some (l.drop 1) else unqL (l.drop 1) := by
  unfold pre21 at h
  cases l with
  | nil => simp at h
  | cons c a =>
    have : c = 61 := by simpa using h
    subst this
    rfl
theorem argument_any (s : ByteArray) (w : World) (hs : s.size ≤ 65000) :
    Calls Tryd.prog 65 #[.string s] w fun e w' => e = .returned (.string (bs ((argD s.data.toList).getD []))) ∧ Below w.heap.size w w' := by
  have hs4 : s.size ≤ 4000000 := by omega
  have h1 : (⟨#[61]⟩ : ByteArray).size ≤ 65536 := by decide
  rcases hp : pre21 s.data.toList [61] with _ | _
  · have HP : Box (pre21 s.data.toList (⟨#[61]⟩ : ByteArray).data.toList = false) := box hp
    have HA := box (argD_not hp)
    clear hp
    go_enter Tryd.func65, Tryd.ntmps65
    go_wp2_with fail
    refine (cutPre21_no hs4 h1 HP).mono ?_; rintro e w1 ⟨rfl, rfl⟩
    go_wp2
    go_ret
    exact ⟨by rw [HA.out]; rfl, Below.refl _ _⟩
  · have HP : Box (pre21 s.data.toList (⟨#[61]⟩ : ByteArray).data.toList = true) := box hp
    have hA := argD_yes hp
    obtain ⟨x, hx⟩ : ∃ x, s.extract (⟨#[61]⟩ : ByteArray).size s.size = x := ⟨_, rfl⟩
    have HX := box hx
    have hxl : x.data.toList = s.data.toList.drop 1 := by rw [← hx]; exact ext_drop21 1
    have hxs : x.size ≤ 65536 := by
      have e1 : x.data.toList.length = x.size := by simp
      have e2 : s.data.toList.length = s.size := by simp
      rw [← e1, hxl, List.length_drop]; omega
    rw [← hxl] at hA
    clear hp hx hxl
    rcases ht : tokL x.data.toList with _ | _
    · rw [ht, if_neg (by decide)] at hA
      have HT := box ht
      obtain ⟨o, ho⟩ : ∃ o, unqL x.data.toList = o := ⟨_, rfl⟩
      have HO := box ho
      rw [ho] at hA
      have HA := box hA
      clear ht ho hA
      rcases o with _ | u
      · go_enter Tryd.func65, Tryd.ntmps65
        go_wp2_with fail
        refine (cutPre21_yes hs4 h1 HP HX).mono ?_; rintro e w1 ⟨rfl, rfl⟩
        go_wp2_with fail
        refine (token22_is hxs HT).mono ?_; rintro e w1 ⟨rfl, rfl⟩
        go_wp2_with fail
        refine (unq22_is hxs HO).mono ?_; rintro e w2 ⟨rfl, hb⟩
        have B := box hb
        clear hb
        unfold optV
        go_wp2
        go_ret
        exact ⟨by rw [HA.out]; rfl, B.out⟩
      · go_enter Tryd.func65, Tryd.ntmps65
        go_wp2_with fail
        refine (cutPre21_yes hs4 h1 HP HX).mono ?_; rintro e w1 ⟨rfl, rfl⟩
        go_wp2_with fail
        refine (token22_is hxs HT).mono ?_; rintro e w1 ⟨rfl, rfl⟩
        go_wp2_with fail
        refine (unq22_is hxs HO).mono ?_; rintro e w2 ⟨rfl, hb⟩
        have B := box hb
        clear hb
        unfold optV
        go_wp2
        go_ret
        exact ⟨by rw [HA.out]; rfl, B.out⟩
    · rw [ht, if_pos rfl] at hA
      have HT := box ht
      have HA := box hA
      clear ht hA
      go_enter Tryd.func65, Tryd.ntmps65
      go_wp2_with fail
      refine (cutPre21_yes hs4 h1 HP HX).mono ?_; rintro e w1 ⟨rfl, rfl⟩
      go_wp2_with fail
      refine (token22_is hxs HT).mono ?_; rintro e w1 ⟨rfl, rfl⟩
      go_wp2
      go_ret
      exact ⟨by rw [HA.out]; exact congrArg (fun z => Ending.returned (.string z)) (bs_all22 x).symm, Below.refl _ _⟩
theorem argD_len (l : List UInt8) : ((argD l).getD []).length ≤ l.length := by
  cases l with
  | nil => exact Nat.le_refl _
  | cons c a =>
    rw [argD_cons]
    by_cases h1 : c = 61
    · rw [if_pos h1]
      by_cases h2 : tokL a = true
      · rw [if_pos h2]; simp
      · rw [if_neg h2]
        cases hu : unqL a with
        | none => simp
        | some u => have := unqL_len22 hu; simp; omega
    · rw [if_neg h1]; simp
theorem number_any (s : ByteArray) (bare bad : Int) (w : World) (hs : s.size ≤ 65000) :
    Calls Tryd.prog 45 #[.string s, .int .i64 bare, .int .i64 bad] w fun e w' => e = .returned (.int .i64 (numD bare bad s.data.toList)) ∧ Below w.heap.size w w' := by
  by_cases hn : s.data.toList = []
  · have h0 : (s.toList == []) = true := by rw [toList_data, hn]; rfl
    have HN : Box (numD bare bad s.data.toList = bare) := box (by unfold numD; rw [if_pos hn])
    clear hn
    go_enter Tryd.func45, Tryd.ntmps45
    go_wp2
    go_ret
    exact ⟨by rw [HN.out]; rfl, Below.refl _ _⟩
  · have h0 : (s.toList == []) = false := by rw [toList_data, beq_eq_false_iff_ne]; exact hn
    have hD := numD_alt hn bare bad
    have hl := argD_len s.data.toList
    have hA := argument_any s w hs
    obtain ⟨a, ha⟩ : ∃ a, bs ((argD s.data.toList).getD []) = a := ⟨_, rfl⟩
    have has : a.size ≤ 65536 := by
      have e1 : a.data.toList.length = a.size := by simp
      have e2 : s.data.toList.length = s.size := by simp
      rw [← e1, ← ha, bs_toList]; omega
    have hal : (argD s.data.toList).getD [] = a.data.toList := by rw [← ha, bs_toList]
    rw [hal] at hD
    rw [ha] at hA
    have HA := box hA
    obtain ⟨o, ho⟩ : ∃ o, numL a.data.toList = o := ⟨_, rfl⟩
    have HO := box ho
    rw [ho] at hD
    have HD := box hD
    clear hn hD hl hA ha hal ho hs
    rcases o with _ | v
    · go_enter Tryd.func45, Tryd.ntmps45
      go_wp2_with fail
      refine (HA.out).mono ?_; rintro e w1 ⟨rfl, hb⟩
      have B := box hb
      clear hb
      go_wp2_with fail
      refine (num22_is has HO).mono ?_; rintro e w2 ⟨rfl, rfl⟩
      unfold numT numV
      go_wp2
      go_ret
      exact ⟨by rw [HD.out]; rfl, B.out⟩
    · go_enter Tryd.func45, Tryd.ntmps45
      go_wp2_with fail
      refine (HA.out).mono ?_; rintro e w1 ⟨rfl, hb⟩
      have B := box hb
      clear hb
      go_wp2_with fail
      refine (num22_is has HO).mono ?_; rintro e w2 ⟨rfl, rfl⟩
      unfold numT numV
      go_wp2
      go_ret
      exact ⟨by rw [HD.out]; rfl, B.out⟩
theorem number_is {s : ByteArray} {bare bad n : Int} {w : World} (hs : s.size ≤ 65000) (h : Box (numD bare bad s.data.toList = n)) :
    Calls Tryd.prog 45 #[.string s, .int .i64 bare, .int .i64 bad] w fun e w' => e = .returned (.int .i64 n) ∧ Below w.heap.size w w' :=
  (number_any s bare bad w hs).mono fun e w' ⟨h1, h2⟩ => ⟨by rw [h1, h.out], h2⟩
theorem one_ext {s : ByteArray} {k : Nat} (h : k < s.size) : (s.extract k (k + 1)).data.toList = [s[k]] := by
  rw [ext_bs, bs_toList, take_snoc s k h, List.drop_append_of_le_length (by simp; omega), List.drop_eq_nil_of_le (by simp; omega)]; rfl
theorem tok_one22 (c : UInt8) : tokL [c] = tokI c.toNat := by unfold tokL allI; simp
/-- the first k bytes are of tokens -/
def NamAt (l : List UInt8) (k : Nat) : Prop := allI tokI (l.take k) = true
theorem cutName_any (s : ByteArray) (w : World) (hs : s.size ≤ 65000) :
    Calls Tryd.prog 43 #[.string s] w fun e w' => e = .returned (.tuple #[.string (bs (lowL (namD s.data.toList))), .string (bs (rstD s.data.toList))]) ∧ Below w.heap.size w w' := by
  have hz : s.data.toList.length = s.size := by simp
  go_enter Tryd.func43, Tryd.ntmps43
  go_wp2
  go_loop [4] (fun i => ∃ k : Nat, k ≤ s.size ∧ i = .int .i64 k ∧ Box (NamAt s.data.toList k)) (fun i => s.size - (intOf i).toNat)
  case atStart => exact ⟨0, Nat.zero_le _, rfl, box rfl⟩
  case round =>
    obtain ⟨k, hk, rfl, hall⟩ := hrel
    by_cases hlt : k < s.size
    · have hki : (k : Int) < (s.size : Int) := by omega
      have hxl := one_ext hlt
      have hxs : (s.extract k (k + 1)).size ≤ 65536 := by
        have e1 : (s.extract k (k + 1)).data.toList.length = (s.extract k (k + 1)).size := Array.length_toList
        rw [← e1, hxl]; simp
      rcases hp : tokI (s[k].toNat) with _ | _
      · have HT : Box (tokL (s.extract k (k + 1)).data.toList = false) := box (by rw [hxl, tok_one22]; exact hp)
        have HC := nam_cut (l := s.data.toList) (k := k) (by omega) hall.out (fun h => by rw [Array.getElem_toList]; exact hp)
        obtain ⟨y, hy⟩ : ∃ y, s.extract 0 k = y := ⟨_, rfl⟩
        obtain ⟨z, hzz⟩ : ∃ z, s.extract k s.size = z := ⟨_, rfl⟩
        have hyl : namD s.data.toList = y.data.toList := by rw [← hy, ext_bs, bs_toList, List.drop_zero]; exact HC.1
        have hzl : rstD s.data.toList = z.data.toList := by rw [← hzz, ext_drop21]; exact HC.2
        have hys : y.size ≤ 65536 := by
          have e1 : y.data.toList.length = y.size := by simp
          have := nam_len s.data.toList
          rw [← e1, ← hyl]; omega
        obtain ⟨q, hq⟩ : ∃ q, bs (lowL y.data.toList) = q := ⟨_, rfl⟩
        have HQ := box hq
        have HL : Box (bs (lowL (namD s.data.toList)) = q ∧ bs (rstD s.data.toList) = z) := box ⟨by rw [hyl]; exact hq, by rw [hzl, bs_all22]⟩
        have b0 : (0 : Int) ≤ (k : Int) := by omega
        have b1 : (k : Int) ≤ (s.size : Int) := by omega
        clear hp hxl HC hyl hzl hq hz hall
        go_wp2_with (go_at_call 63; refine (token22_is hxs HT).mono ?_; rintro e w' ⟨rfl, rfl⟩)
        go_region_held3 (fun _ => True) (trivial) (first | (go_at_call 64; refine (low22_is hys HQ).mono ?_; rintro e w1 ⟨rfl, hb1⟩))
        go_wp2
        go_ret2
        exact ⟨by rw [HL.out.1, HL.out.2]; rfl, ((Below.refl w.heap.size w).drew).trans (hb1.mono ((Below.refl w.heap.size w).drew).size)⟩
      · have HT : Box (tokL (s.extract k (k + 1)).data.toList = true) := box (by rw [hxl, tok_one22]; exact hp)
        have HN : Box (NamAt s.data.toList (k + 1)) := box (all_more hall.out hlt hp)
        clear hp hxl hz hall
        go_wp2_with (go_at_call 63; refine (token22_is hxs HT).mono ?_; rintro e w' ⟨rfl, rfl⟩)
        go_round
        case rel => exact ⟨k + 1, by omega, by go_num, HN⟩
        case measure => simp [intOf]; omega
    · have hki : ¬ (k : Int) < (s.size : Int) := by omega
      have HC := nam_cut (l := s.data.toList) (k := k) (by omega) hall.out (fun h => absurd h (by rw [hz]; exact hlt))
      have hxl := hz
      have hp := hz
      obtain ⟨y, hy⟩ : ∃ y, s.extract 0 k = y := ⟨_, rfl⟩
      obtain ⟨z, hzz⟩ : ∃ z, s.extract k s.size = z := ⟨_, rfl⟩
      have hyl : namD s.data.toList = y.data.toList := by rw [← hy, ext_bs, bs_toList, List.drop_zero]; exact HC.1
      have hzl : rstD s.data.toList = z.data.toList := by rw [← hzz, ext_drop21]; exact HC.2
      have hys : y.size ≤ 65536 := by
        have e1 : y.data.toList.length = y.size := by simp
        have := nam_len s.data.toList
        rw [← e1, ← hyl]; omega
      obtain ⟨q, hq⟩ : ∃ q, bs (lowL y.data.toList) = q := ⟨_, rfl⟩
      have HQ := box hq
      have HL : Box (bs (lowL (namD s.data.toList)) = q ∧ bs (rstD s.data.toList) = z) := box ⟨by rw [hyl]; exact hq, by rw [hzl, bs_all22]⟩
      have b0 : (0 : Int) ≤ (k : Int) := by omega
      have b1 : (k : Int) ≤ (s.size : Int) := by omega
      clear hp hxl HC hyl hzl hq hz hall
      go_wp2
      go_region_held3 (fun _ => True) (trivial) (first | (go_at_call 64; refine (low22_is hys HQ).mono ?_; rintro e w1 ⟨rfl, hb1⟩))
      go_wp2
      go_ret2
      exact ⟨by rw [HL.out.1, HL.out.2]; rfl, ((Below.refl w.heap.size w).drew).trans (hb1.mono ((Below.refl w.heap.size w).drew).size)⟩
theorem cutName_is {s x r : ByteArray} {w : World} (hs : s.size ≤ 65000) (hx : Box (bs (lowL (namD s.data.toList)) = x)) (hr : Box (bs (rstD s.data.toList) = r)) :
    Calls Tryd.prog 43 #[.string s] w fun e w' => e = .returned (.tuple #[.string x, .string r]) ∧ Below w.heap.size w w' :=
  (cutName_any s w hs).mono fun e w' ⟨h1, h2⟩ => ⟨by rw [h1, hx.out, hr.out], h2⟩
end
section
open Go.RowKit
theorem apply_ns (g : Nat) (c : CT) (s x r : ByteArray) (w : World) (hs : s.size ≤ 65000) (HX : Box (bs (lowL (namD s.data.toList)) = x)) (HR : Box (bs (rstD s.data.toList) = r)) (hx : Box (x.toList = [110, 111, 45, 115, 116, 111, 114, 101])) (C : Box (Ct g c w)) :
    Calls Tryd.prog 31 #[.pointer (some ⟨g, 0, none⟩), .string s] w fun e w' => e = .returned (.tuple #[]) ∧ Ct g { c with ns := true } w' ∧ Only g w w' := by
  have h0 : (x.toList == [110, 111, 45, 115, 116, 111, 114, 101]) = true := by rw [hx.out]; decide
  go_enter Tryd.func31, Tryd.ntmps31
  go_wp2_with fail
  refine (cutName_is hs HX HR).mono ?_; rintro e w1 ⟨rfl, hb1⟩
  have C1 := C.out.next hb1
  have O1 := box (Only.of (k := g) hb1)
  clear hb1
  have CC := box (C1.set_ns true)
  obtain ⟨⟨c0, c1, c2, c3, c4, c5, c6, c7, c8, c9, c10⟩, ⟨f0, f1, f2, f3, f4, f5, f6, f7, f8, f9, f10⟩⟩ := C1
  go_wp2
  go_end0
  exact ⟨rfl, CC.out, O1.out.setAt 0 _⟩
theorem apply_nc (g : Nat) (c : CT) (s x r : ByteArray) (w : World) (hs : s.size ≤ 65000) (HX : Box (bs (lowL (namD s.data.toList)) = x)) (HR : Box (bs (rstD s.data.toList) = r)) (hx : Box (x.toList = [110, 111, 45, 99, 97, 99, 104, 101])) (C : Box (Ct g c w)) :
    Calls Tryd.prog 31 #[.pointer (some ⟨g, 0, none⟩), .string s] w fun e w' => e = .returned (.tuple #[]) ∧ Ct g { c with nc := true } w' ∧ Only g w w' := by
  have h0 : (x.toList == [110, 111, 45, 115, 116, 111, 114, 101]) = false := by rw [hx.out]; decide
  have h1 : (x.toList == [110, 111, 45, 99, 97, 99, 104, 101]) = true := by rw [hx.out]; decide
  go_enter Tryd.func31, Tryd.ntmps31
  go_wp2_with fail
  refine (cutName_is hs HX HR).mono ?_; rintro e w1 ⟨rfl, hb1⟩
  have C1 := C.out.next hb1
  have O1 := box (Only.of (k := g) hb1)
  clear hb1
  have CC := box (C1.set_nc true)
  obtain ⟨⟨c0, c1, c2, c3, c4, c5, c6, c7, c8, c9, c10⟩, ⟨f0, f1, f2, f3, f4, f5, f6, f7, f8, f9, f10⟩⟩ := C1
  go_wp2
  go_end0
  exact ⟨rfl, CC.out, O1.out.setAt 1 _⟩
theorem apply_mr (g : Nat) (c : CT) (s x r : ByteArray) (w : World) (hs : s.size ≤ 65000) (HX : Box (bs (lowL (namD s.data.toList)) = x)) (HR : Box (bs (rstD s.data.toList) = r)) (hx : Box (x.toList = [109, 117, 115, 116, 45, 114, 101, 118, 97, 108, 105, 100, 97, 116, 101])) (C : Box (Ct g c w)) :
    Calls Tryd.prog 31 #[.pointer (some ⟨g, 0, none⟩), .string s] w fun e w' => e = .returned (.tuple #[]) ∧ Ct g { c with mr := true } w' ∧ Only g w w' := by
  have h0 : (x.toList == [110, 111, 45, 115, 116, 111, 114, 101]) = false := by rw [hx.out]; decide
  have h1 : (x.toList == [110, 111, 45, 99, 97, 99, 104, 101]) = false := by rw [hx.out]; decide
  have h2 : (x.toList == [109, 117, 115, 116, 45, 114, 101, 118, 97, 108, 105, 100, 97, 116, 101]) = true := by rw [hx.out]; decide
  go_enter Tryd.func31, Tryd.ntmps31
  go_wp2_with fail
  refine (cutName_is hs HX HR).mono ?_; rintro e w1 ⟨rfl, hb1⟩
  have C1 := C.out.next hb1
  have O1 := box (Only.of (k := g) hb1)
  clear hb1
  have CC := box (C1.set_mr true)
  obtain ⟨⟨c0, c1, c2, c3, c4, c5, c6, c7, c8, c9, c10⟩, ⟨f0, f1, f2, f3, f4, f5, f6, f7, f8, f9, f10⟩⟩ := C1
  go_wp2
  go_end0
  exact ⟨rfl, CC.out, O1.out.setAt 2 _⟩
theorem apply_pr (g : Nat) (c : CT) (s x r : ByteArray) (w : World) (hs : s.size ≤ 65000) (HX : Box (bs (lowL (namD s.data.toList)) = x)) (HR : Box (bs (rstD s.data.toList) = r)) (hx : Box (x.toList = [112, 114, 111, 120, 121, 45, 114, 101, 118, 97, 108, 105, 100, 97, 116, 101])) (C : Box (Ct g c w)) :
    Calls Tryd.prog 31 #[.pointer (some ⟨g, 0, none⟩), .string s] w fun e w' => e = .returned (.tuple #[]) ∧ Ct g { c with pr := true } w' ∧ Only g w w' := by
  have h0 : (x.toList == [110, 111, 45, 115, 116, 111, 114, 101]) = false := by rw [hx.out]; decide
  have h1 : (x.toList == [110, 111, 45, 99, 97, 99, 104, 101]) = false := by rw [hx.out]; decide
  have h2 : (x.toList == [109, 117, 115, 116, 45, 114, 101, 118, 97, 108, 105, 100, 97, 116, 101]) = false := by rw [hx.out]; decide
  have h3 : (x.toList == [112, 114, 111, 120, 121, 45, 114, 101, 118, 97, 108, 105, 100, 97, 116, 101]) = true := by rw [hx.out]; decide
  go_enter Tryd.func31, Tryd.ntmps31
  go_wp2_with fail
  refine (cutName_is hs HX HR).mono ?_; rintro e w1 ⟨rfl, hb1⟩
  have C1 := C.out.next hb1
  have O1 := box (Only.of (k := g) hb1)
  clear hb1
  have CC := box (C1.set_pr true)
  obtain ⟨⟨c0, c1, c2, c3, c4, c5, c6, c7, c8, c9, c10⟩, ⟨f0, f1, f2, f3, f4, f5, f6, f7, f8, f9, f10⟩⟩ := C1
  go_wp2
  go_end0
  exact ⟨rfl, CC.out, O1.out.setAt 3 _⟩
theorem apply_pv (g : Nat) (c : CT) (s x r : ByteArray) (w : World) (hs : s.size ≤ 65000) (HX : Box (bs (lowL (namD s.data.toList)) = x)) (HR : Box (bs (rstD s.data.toList) = r)) (hx : Box (x.toList = [112, 114, 105, 118, 97, 116, 101])) (C : Box (Ct g c w)) :
    Calls Tryd.prog 31 #[.pointer (some ⟨g, 0, none⟩), .string s] w fun e w' => e = .returned (.tuple #[]) ∧ Ct g { c with pv := true } w' ∧ Only g w w' := by
  have h0 : (x.toList == [110, 111, 45, 115, 116, 111, 114, 101]) = false := by rw [hx.out]; decide
  have h1 : (x.toList == [110, 111, 45, 99, 97, 99, 104, 101]) = false := by rw [hx.out]; decide
  have h2 : (x.toList == [109, 117, 115, 116, 45, 114, 101, 118, 97, 108, 105, 100, 97, 116, 101]) = false := by rw [hx.out]; decide
  have h3 : (x.toList == [112, 114, 111, 120, 121, 45, 114, 101, 118, 97, 108, 105, 100, 97, 116, 101]) = false := by rw [hx.out]; decide
  have h4 : (x.toList == [112, 114, 105, 118, 97, 116, 101]) = true := by rw [hx.out]; decide
  go_enter Tryd.func31, Tryd.ntmps31
  go_wp2_with fail
  refine (cutName_is hs HX HR).mono ?_; rintro e w1 ⟨rfl, hb1⟩
  have C1 := C.out.next hb1
  have O1 := box (Only.of (k := g) hb1)
  clear hb1
  have CC := box (C1.set_pv true)
  obtain ⟨⟨c0, c1, c2, c3, c4, c5, c6, c7, c8, c9, c10⟩, ⟨f0, f1, f2, f3, f4, f5, f6, f7, f8, f9, f10⟩⟩ := C1
  go_wp2
  go_end0
  exact ⟨rfl, CC.out, O1.out.setAt 4 _⟩
theorem apply_pb (g : Nat) (c : CT) (s x r : ByteArray) (w : World) (hs : s.size ≤ 65000) (HX : Box (bs (lowL (namD s.data.toList)) = x)) (HR : Box (bs (rstD s.data.toList) = r)) (hx : Box (x.toList = [112, 117, 98, 108, 105, 99])) (C : Box (Ct g c w)) :
    Calls Tryd.prog 31 #[.pointer (some ⟨g, 0, none⟩), .string s] w fun e w' => e = .returned (.tuple #[]) ∧ Ct g { c with pb := true } w' ∧ Only g w w' := by
  have h0 : (x.toList == [110, 111, 45, 115, 116, 111, 114, 101]) = false := by rw [hx.out]; decide
  have h1 : (x.toList == [110, 111, 45, 99, 97, 99, 104, 101]) = false := by rw [hx.out]; decide
  have h2 : (x.toList == [109, 117, 115, 116, 45, 114, 101, 118, 97, 108, 105, 100, 97, 116, 101]) = false := by rw [hx.out]; decide
  have h3 : (x.toList == [112, 114, 111, 120, 121, 45, 114, 101, 118, 97, 108, 105, 100, 97, 116, 101]) = false := by rw [hx.out]; decide
  have h4 : (x.toList == [112, 114, 105, 118, 97, 116, 101]) = false := by rw [hx.out]; decide
  have h5 : (x.toList == [112, 117, 98, 108, 105, 99]) = true := by rw [hx.out]; decide
  go_enter Tryd.func31, Tryd.ntmps31
  go_wp2_with fail
  refine (cutName_is hs HX HR).mono ?_; rintro e w1 ⟨rfl, hb1⟩
  have C1 := C.out.next hb1
  have O1 := box (Only.of (k := g) hb1)
  clear hb1
  have CC := box (C1.set_pb true)
  obtain ⟨⟨c0, c1, c2, c3, c4, c5, c6, c7, c8, c9, c10⟩, ⟨f0, f1, f2, f3, f4, f5, f6, f7, f8, f9, f10⟩⟩ := C1
  go_wp2
  go_end0
  exact ⟨rfl, CC.out, O1.out.setAt 5 _⟩
theorem apply_oc (g : Nat) (c : CT) (s x r : ByteArray) (w : World) (hs : s.size ≤ 65000) (HX : Box (bs (lowL (namD s.data.toList)) = x)) (HR : Box (bs (rstD s.data.toList) = r)) (hx : Box (x.toList = [111, 110, 108, 121, 45, 105, 102, 45, 99, 97, 99, 104, 101, 100])) (C : Box (Ct g c w)) :
    Calls Tryd.prog 31 #[.pointer (some ⟨g, 0, none⟩), .string s] w fun e w' => e = .returned (.tuple #[]) ∧ Ct g { c with oc := true } w' ∧ Only g w w' := by
  have h0 : (x.toList == [110, 111, 45, 115, 116, 111, 114, 101]) = false := by rw [hx.out]; decide
  have h1 : (x.toList == [110, 111, 45, 99, 97, 99, 104, 101]) = false := by rw [hx.out]; decide
  have h2 : (x.toList == [109, 117, 115, 116, 45, 114, 101, 118, 97, 108, 105, 100, 97, 116, 101]) = false := by rw [hx.out]; decide
  have h3 : (x.toList == [112, 114, 111, 120, 121, 45, 114, 101, 118, 97, 108, 105, 100, 97, 116, 101]) = false := by rw [hx.out]; decide
  have h4 : (x.toList == [112, 114, 105, 118, 97, 116, 101]) = false := by rw [hx.out]; decide
  have h5 : (x.toList == [112, 117, 98, 108, 105, 99]) = false := by rw [hx.out]; decide
  have h6 : (x.toList == [111, 110, 108, 121, 45, 105, 102, 45, 99, 97, 99, 104, 101, 100]) = true := by rw [hx.out]; decide
  go_enter Tryd.func31, Tryd.ntmps31
  go_wp2_with fail
  refine (cutName_is hs HX HR).mono ?_; rintro e w1 ⟨rfl, hb1⟩
  have C1 := C.out.next hb1
  have O1 := box (Only.of (k := g) hb1)
  clear hb1
  have CC := box (C1.set_oc true)
  obtain ⟨⟨c0, c1, c2, c3, c4, c5, c6, c7, c8, c9, c10⟩, ⟨f0, f1, f2, f3, f4, f5, f6, f7, f8, f9, f10⟩⟩ := C1
  go_wp2
  go_end0
  exact ⟨rfl, CC.out, O1.out.setAt 6 _⟩
theorem apply_ma1 (g : Nat) (c : CT) (s x r : ByteArray) (n : Int) (w : World) (hs : s.size ≤ 65000) (HX : Box (bs (lowL (namD s.data.toList)) = x)) (HR : Box (bs (rstD s.data.toList) = r)) (hr : r.size ≤ 65000) (HN : Box (numD 0 0 r.data.toList = n)) (hx : Box (x.toList = [109, 97, 120, 45, 97, 103, 101])) (hc : c.ma = -1) (C : Box (Ct g c w)) :
    Calls Tryd.prog 31 #[.pointer (some ⟨g, 0, none⟩), .string s] w fun e w' => e = .returned (.tuple #[]) ∧ Ct g { c with ma := n } w' ∧ Only g w w' := by
  have h0 : (x.toList == [110, 111, 45, 115, 116, 111, 114, 101]) = false := by rw [hx.out]; decide
  have h1 : (x.toList == [110, 111, 45, 99, 97, 99, 104, 101]) = false := by rw [hx.out]; decide
  have h2 : (x.toList == [109, 117, 115, 116, 45, 114, 101, 118, 97, 108, 105, 100, 97, 116, 101]) = false := by rw [hx.out]; decide
  have h3 : (x.toList == [112, 114, 111, 120, 121, 45, 114, 101, 118, 97, 108, 105, 100, 97, 116, 101]) = false := by rw [hx.out]; decide
  have h4 : (x.toList == [112, 114, 105, 118, 97, 116, 101]) = false := by rw [hx.out]; decide
  have h5 : (x.toList == [112, 117, 98, 108, 105, 99]) = false := by rw [hx.out]; decide
  have h6 : (x.toList == [111, 110, 108, 121, 45, 105, 102, 45, 99, 97, 99, 104, 101, 100]) = false := by rw [hx.out]; decide
  have h7 : (x.toList == [109, 97, 120, 45, 97, 103, 101]) = true := by rw [hx.out]; decide
  have HC := box hc
  clear hc
  go_enter Tryd.func31, Tryd.ntmps31
  go_wp2_with fail
  refine (cutName_is hs HX HR).mono ?_; rintro e w1 ⟨rfl, hb1⟩
  have C1 := box ((C.out.next hb1).drewN 1)
  have O1 := box ((Only.of (k := g) hb1).trans (Only.of (below_drewN w1 1)))
  clear hb1
  go_wp2
  go_region_held3 (fun _ => True) (trivial) (first
    | (go_at_call 44; refine (setFirst_yes g 7 n _ (by rw [← HC.out]; exact C2.out.1.2.2.2.2.2.2.2.1) C2.out.2.2.2.2.2.2.2.2.1).mono ?_; rintro e w3 ⟨rfl, rfl⟩)
    | (go_at_call 45; refine (number_is hr HN).mono ?_; rintro e w2 ⟨rfl, hb2⟩; have C2 := box (C1.out.next hb2); have O2 := box (O1.out.trans (Only.of (k := g) hb2)); clear hb2))
  go_wp2
  go_end0
  exact ⟨rfl, C2.out.set_ma n, O2.out.setAt 7 _⟩
theorem apply_ma0 (g : Nat) (c : CT) (s x r : ByteArray) (n : Int) (w : World) (hs : s.size ≤ 65000) (HX : Box (bs (lowL (namD s.data.toList)) = x)) (HR : Box (bs (rstD s.data.toList) = r)) (hr : r.size ≤ 65000) (HN : Box (numD 0 0 r.data.toList = n)) (hx : Box (x.toList = [109, 97, 120, 45, 97, 103, 101])) (hc : (c.ma == -1) = false) (C : Box (Ct g c w)) :
    Calls Tryd.prog 31 #[.pointer (some ⟨g, 0, none⟩), .string s] w fun e w' => e = .returned (.tuple #[]) ∧ Ct g c w' ∧ Only g w w' := by
  have h0 : (x.toList == [110, 111, 45, 115, 116, 111, 114, 101]) = false := by rw [hx.out]; decide
  have h1 : (x.toList == [110, 111, 45, 99, 97, 99, 104, 101]) = false := by rw [hx.out]; decide
  have h2 : (x.toList == [109, 117, 115, 116, 45, 114, 101, 118, 97, 108, 105, 100, 97, 116, 101]) = false := by rw [hx.out]; decide
  have h3 : (x.toList == [112, 114, 111, 120, 121, 45, 114, 101, 118, 97, 108, 105, 100, 97, 116, 101]) = false := by rw [hx.out]; decide
  have h4 : (x.toList == [112, 114, 105, 118, 97, 116, 101]) = false := by rw [hx.out]; decide
  have h5 : (x.toList == [112, 117, 98, 108, 105, 99]) = false := by rw [hx.out]; decide
  have h6 : (x.toList == [111, 110, 108, 121, 45, 105, 102, 45, 99, 97, 99, 104, 101, 100]) = false := by rw [hx.out]; decide
  have h7 : (x.toList == [109, 97, 120, 45, 97, 103, 101]) = true := by rw [hx.out]; decide
  have HC := box hc
  clear hc
  go_enter Tryd.func31, Tryd.ntmps31
  go_wp2_with fail
  refine (cutName_is hs HX HR).mono ?_; rintro e w1 ⟨rfl, hb1⟩
  have C1 := box ((C.out.next hb1).drewN 1)
  have O1 := box ((Only.of (k := g) hb1).trans (Only.of (below_drewN w1 1)))
  clear hb1
  go_wp2
  go_region_held3 (fun _ => True) (trivial) (first
    | (go_at_call 44; refine (setFirst_no g 7 n c.ma _ (C2.out.1.2.2.2.2.2.2.2.1) HC.out).mono ?_; rintro e w3 ⟨rfl, rfl⟩)
    | (go_at_call 45; refine (number_is hr HN).mono ?_; rintro e w2 ⟨rfl, hb2⟩; have C2 := box (C1.out.next hb2); have O2 := box (O1.out.trans (Only.of (k := g) hb2)); clear hb2))
  go_wp2
  go_end0
  exact ⟨rfl, C2.out, O2.out⟩
theorem apply_sm1 (g : Nat) (c : CT) (s x r : ByteArray) (n : Int) (w : World) (hs : s.size ≤ 65000) (HX : Box (bs (lowL (namD s.data.toList)) = x)) (HR : Box (bs (rstD s.data.toList) = r)) (hr : r.size ≤ 65000) (HN : Box (numD 0 0 r.data.toList = n)) (hx : Box (x.toList = [115, 45, 109, 97, 120, 97, 103, 101])) (hc : c.sm = -1) (C : Box (Ct g c w)) :
    Calls Tryd.prog 31 #[.pointer (some ⟨g, 0, none⟩), .string s] w fun e w' => e = .returned (.tuple #[]) ∧ Ct g { c with sm := n } w' ∧ Only g w w' := by
  have h0 : (x.toList == [110, 111, 45, 115, 116, 111, 114, 101]) = false := by rw [hx.out]; decide
  have h1 : (x.toList == [110, 111, 45, 99, 97, 99, 104, 101]) = false := by rw [hx.out]; decide
  have h2 : (x.toList == [109, 117, 115, 116, 45, 114, 101, 118, 97, 108, 105, 100, 97, 116, 101]) = false := by rw [hx.out]; decide
  have h3 : (x.toList == [112, 114, 111, 120, 121, 45, 114, 101, 118, 97, 108, 105, 100, 97, 116, 101]) = false := by rw [hx.out]; decide
  have h4 : (x.toList == [112, 114, 105, 118, 97, 116, 101]) = false := by rw [hx.out]; decide
  have h5 : (x.toList == [112, 117, 98, 108, 105, 99]) = false := by rw [hx.out]; decide
  have h6 : (x.toList == [111, 110, 108, 121, 45, 105, 102, 45, 99, 97, 99, 104, 101, 100]) = false := by rw [hx.out]; decide
  have h7 : (x.toList == [109, 97, 120, 45, 97, 103, 101]) = false := by rw [hx.out]; decide
  have h8 : (x.toList == [115, 45, 109, 97, 120, 97, 103, 101]) = true := by rw [hx.out]; decide
  have HC := box hc
  clear hc
  go_enter Tryd.func31, Tryd.ntmps31
  go_wp2_with fail
  refine (cutName_is hs HX HR).mono ?_; rintro e w1 ⟨rfl, hb1⟩
  have C1 := box ((C.out.next hb1).drewN 1)
  have O1 := box ((Only.of (k := g) hb1).trans (Only.of (below_drewN w1 1)))
  clear hb1
  go_wp2
  go_region_held3 (fun _ => True) (trivial) (first
    | (go_at_call 44; refine (setFirst_yes g 8 n _ (by rw [← HC.out]; exact C2.out.1.2.2.2.2.2.2.2.2.1) C2.out.2.2.2.2.2.2.2.2.2.1).mono ?_; rintro e w3 ⟨rfl, rfl⟩)
    | (go_at_call 45; refine (number_is hr HN).mono ?_; rintro e w2 ⟨rfl, hb2⟩; have C2 := box (C1.out.next hb2); have O2 := box (O1.out.trans (Only.of (k := g) hb2)); clear hb2))
  go_wp2
  go_end0
  exact ⟨rfl, C2.out.set_sm n, O2.out.setAt 8 _⟩
theorem apply_sm0 (g : Nat) (c : CT) (s x r : ByteArray) (n : Int) (w : World) (hs : s.size ≤ 65000) (HX : Box (bs (lowL (namD s.data.toList)) = x)) (HR : Box (bs (rstD s.data.toList) = r)) (hr : r.size ≤ 65000) (HN : Box (numD 0 0 r.data.toList = n)) (hx : Box (x.toList = [115, 45, 109, 97, 120, 97, 103, 101])) (hc : (c.sm == -1) = false) (C : Box (Ct g c w)) :
    Calls Tryd.prog 31 #[.pointer (some ⟨g, 0, none⟩), .string s] w fun e w' => e = .returned (.tuple #[]) ∧ Ct g c w' ∧ Only g w w' := by
  have h0 : (x.toList == [110, 111, 45, 115, 116, 111, 114, 101]) = false := by rw [hx.out]; decide
  have h1 : (x.toList == [110, 111, 45, 99, 97, 99, 104, 101]) = false := by rw [hx.out]; decide
  have h2 : (x.toList == [109, 117, 115, 116, 45, 114, 101, 118, 97, 108, 105, 100, 97, 116, 101]) = false := by rw [hx.out]; decide
  have h3 : (x.toList == [112, 114, 111, 120, 121, 45, 114, 101, 118, 97, 108, 105, 100, 97, 116, 101]) = false := by rw [hx.out]; decide
  have h4 : (x.toList == [112, 114, 105, 118, 97, 116, 101]) = false := by rw [hx.out]; decide
  have h5 : (x.toList == [112, 117, 98, 108, 105, 99]) = false := by rw [hx.out]; decide
  have h6 : (x.toList == [111, 110, 108, 121, 45, 105, 102, 45, 99, 97, 99, 104, 101, 100]) = false := by rw [hx.out]; decide
  have h7 : (x.toList == [109, 97, 120, 45, 97, 103, 101]) = false := by rw [hx.out]; decide
  have h8 : (x.toList == [115, 45, 109, 97, 120, 97, 103, 101]) = true := by rw [hx.out]; decide
  have HC := box hc
  clear hc
  go_enter Tryd.func31, Tryd.ntmps31
  go_wp2_with fail
  refine (cutName_is hs HX HR).mono ?_; rintro e w1 ⟨rfl, hb1⟩
  have C1 := box ((C.out.next hb1).drewN 1)
  have O1 := box ((Only.of (k := g) hb1).trans (Only.of (below_drewN w1 1)))
  clear hb1
  go_wp2
  go_region_held3 (fun _ => True) (trivial) (first
    | (go_at_call 44; refine (setFirst_no g 8 n c.sm _ (C2.out.1.2.2.2.2.2.2.2.2.1) HC.out).mono ?_; rintro e w3 ⟨rfl, rfl⟩)
    | (go_at_call 45; refine (number_is hr HN).mono ?_; rintro e w2 ⟨rfl, hb2⟩; have C2 := box (C1.out.next hb2); have O2 := box (O1.out.trans (Only.of (k := g) hb2)); clear hb2))
  go_wp2
  go_end0
  exact ⟨rfl, C2.out, O2.out⟩
theorem apply_mf1 (g : Nat) (c : CT) (s x r : ByteArray) (n : Int) (w : World) (hs : s.size ≤ 65000) (HX : Box (bs (lowL (namD s.data.toList)) = x)) (HR : Box (bs (rstD s.data.toList) = r)) (hr : r.size ≤ 65000) (HN : Box (numD 2147483647 2147483647 r.data.toList = n)) (hx : Box (x.toList = [109, 105, 110, 45, 102, 114, 101, 115, 104])) (hc : c.mf = -1) (C : Box (Ct g c w)) :
    Calls Tryd.prog 31 #[.pointer (some ⟨g, 0, none⟩), .string s] w fun e w' => e = .returned (.tuple #[]) ∧ Ct g { c with mf := n } w' ∧ Only g w w' := by
  have h0 : (x.toList == [110, 111, 45, 115, 116, 111, 114, 101]) = false := by rw [hx.out]; decide
  have h1 : (x.toList == [110, 111, 45, 99, 97, 99, 104, 101]) = false := by rw [hx.out]; decide
  have h2 : (x.toList == [109, 117, 115, 116, 45, 114, 101, 118, 97, 108, 105, 100, 97, 116, 101]) = false := by rw [hx.out]; decide
  have h3 : (x.toList == [112, 114, 111, 120, 121, 45, 114, 101, 118, 97, 108, 105, 100, 97, 116, 101]) = false := by rw [hx.out]; decide
  have h4 : (x.toList == [112, 114, 105, 118, 97, 116, 101]) = false := by rw [hx.out]; decide
  have h5 : (x.toList == [112, 117, 98, 108, 105, 99]) = false := by rw [hx.out]; decide
  have h6 : (x.toList == [111, 110, 108, 121, 45, 105, 102, 45, 99, 97, 99, 104, 101, 100]) = false := by rw [hx.out]; decide
  have h7 : (x.toList == [109, 97, 120, 45, 97, 103, 101]) = false := by rw [hx.out]; decide
  have h8 : (x.toList == [115, 45, 109, 97, 120, 97, 103, 101]) = false := by rw [hx.out]; decide
  have h9 : (x.toList == [109, 105, 110, 45, 102, 114, 101, 115, 104]) = true := by rw [hx.out]; decide
  have HC := box hc
  clear hc
  go_enter Tryd.func31, Tryd.ntmps31
  go_wp2_with fail
  refine (cutName_is hs HX HR).mono ?_; rintro e w1 ⟨rfl, hb1⟩
  have C1 := box ((C.out.next hb1).drewN 1)
  have O1 := box ((Only.of (k := g) hb1).trans (Only.of (below_drewN w1 1)))
  clear hb1
  go_wp2
  go_region_held3 (fun _ => True) (trivial) (first
    | (go_at_call 44; refine (setFirst_yes g 9 n _ (by rw [← HC.out]; exact C2.out.1.2.2.2.2.2.2.2.2.2.1) C2.out.2.2.2.2.2.2.2.2.2.2.1).mono ?_; rintro e w3 ⟨rfl, rfl⟩)
    | (go_at_call 45; refine (number_is hr HN).mono ?_; rintro e w2 ⟨rfl, hb2⟩; have C2 := box (C1.out.next hb2); have O2 := box (O1.out.trans (Only.of (k := g) hb2)); clear hb2))
  go_wp2
  go_end0
  exact ⟨rfl, C2.out.set_mf n, O2.out.setAt 9 _⟩
theorem apply_mf0 (g : Nat) (c : CT) (s x r : ByteArray) (n : Int) (w : World) (hs : s.size ≤ 65000) (HX : Box (bs (lowL (namD s.data.toList)) = x)) (HR : Box (bs (rstD s.data.toList) = r)) (hr : r.size ≤ 65000) (HN : Box (numD 2147483647 2147483647 r.data.toList = n)) (hx : Box (x.toList = [109, 105, 110, 45, 102, 114, 101, 115, 104])) (hc : (c.mf == -1) = false) (C : Box (Ct g c w)) :
    Calls Tryd.prog 31 #[.pointer (some ⟨g, 0, none⟩), .string s] w fun e w' => e = .returned (.tuple #[]) ∧ Ct g c w' ∧ Only g w w' := by
  have h0 : (x.toList == [110, 111, 45, 115, 116, 111, 114, 101]) = false := by rw [hx.out]; decide
  have h1 : (x.toList == [110, 111, 45, 99, 97, 99, 104, 101]) = false := by rw [hx.out]; decide
  have h2 : (x.toList == [109, 117, 115, 116, 45, 114, 101, 118, 97, 108, 105, 100, 97, 116, 101]) = false := by rw [hx.out]; decide
  have h3 : (x.toList == [112, 114, 111, 120, 121, 45, 114, 101, 118, 97, 108, 105, 100, 97, 116, 101]) = false := by rw [hx.out]; decide
  have h4 : (x.toList == [112, 114, 105, 118, 97, 116, 101]) = false := by rw [hx.out]; decide
  have h5 : (x.toList == [112, 117, 98, 108, 105, 99]) = false := by rw [hx.out]; decide
  have h6 : (x.toList == [111, 110, 108, 121, 45, 105, 102, 45, 99, 97, 99, 104, 101, 100]) = false := by rw [hx.out]; decide
  have h7 : (x.toList == [109, 97, 120, 45, 97, 103, 101]) = false := by rw [hx.out]; decide
  have h8 : (x.toList == [115, 45, 109, 97, 120, 97, 103, 101]) = false := by rw [hx.out]; decide
  have h9 : (x.toList == [109, 105, 110, 45, 102, 114, 101, 115, 104]) = true := by rw [hx.out]; decide
  have HC := box hc
  clear hc
  go_enter Tryd.func31, Tryd.ntmps31
  go_wp2_with fail
  refine (cutName_is hs HX HR).mono ?_; rintro e w1 ⟨rfl, hb1⟩
  have C1 := box ((C.out.next hb1).drewN 1)
  have O1 := box ((Only.of (k := g) hb1).trans (Only.of (below_drewN w1 1)))
  clear hb1
  go_wp2
  go_region_held3 (fun _ => True) (trivial) (first
    | (go_at_call 44; refine (setFirst_no g 9 n c.mf _ (C2.out.1.2.2.2.2.2.2.2.2.2.1) HC.out).mono ?_; rintro e w3 ⟨rfl, rfl⟩)
    | (go_at_call 45; refine (number_is hr HN).mono ?_; rintro e w2 ⟨rfl, hb2⟩; have C2 := box (C1.out.next hb2); have O2 := box (O1.out.trans (Only.of (k := g) hb2)); clear hb2))
  go_wp2
  go_end0
  exact ⟨rfl, C2.out, O2.out⟩
theorem apply_ms1 (g : Nat) (c : CT) (s x r : ByteArray) (n : Int) (w : World) (hs : s.size ≤ 65000) (HX : Box (bs (lowL (namD s.data.toList)) = x)) (HR : Box (bs (rstD s.data.toList) = r)) (hr : r.size ≤ 65000) (HN : Box (numD 2147483647 0 r.data.toList = n)) (hx : Box (x.toList = [109, 97, 120, 45, 115, 116, 97, 108, 101])) (hc : c.ms = -1) (C : Box (Ct g c w)) :
    Calls Tryd.prog 31 #[.pointer (some ⟨g, 0, none⟩), .string s] w fun e w' => e = .returned (.tuple #[]) ∧ Ct g { c with ms := n } w' ∧ Only g w w' := by
  have h0 : (x.toList == [110, 111, 45, 115, 116, 111, 114, 101]) = false := by rw [hx.out]; decide
  have h1 : (x.toList == [110, 111, 45, 99, 97, 99, 104, 101]) = false := by rw [hx.out]; decide
  have h2 : (x.toList == [109, 117, 115, 116, 45, 114, 101, 118, 97, 108, 105, 100, 97, 116, 101]) = false := by rw [hx.out]; decide
  have h3 : (x.toList == [112, 114, 111, 120, 121, 45, 114, 101, 118, 97, 108, 105, 100, 97, 116, 101]) = false := by rw [hx.out]; decide
  have h4 : (x.toList == [112, 114, 105, 118, 97, 116, 101]) = false := by rw [hx.out]; decide
  have h5 : (x.toList == [112, 117, 98, 108, 105, 99]) = false := by rw [hx.out]; decide
  have h6 : (x.toList == [111, 110, 108, 121, 45, 105, 102, 45, 99, 97, 99, 104, 101, 100]) = false := by rw [hx.out]; decide
  have h7 : (x.toList == [109, 97, 120, 45, 97, 103, 101]) = false := by rw [hx.out]; decide
  have h8 : (x.toList == [115, 45, 109, 97, 120, 97, 103, 101]) = false := by rw [hx.out]; decide
  have h9 : (x.toList == [109, 105, 110, 45, 102, 114, 101, 115, 104]) = false := by rw [hx.out]; decide
  have h10 : (x.toList == [109, 97, 120, 45, 115, 116, 97, 108, 101]) = true := by rw [hx.out]; decide
  have HC := box hc
  clear hc
  go_enter Tryd.func31, Tryd.ntmps31
  go_wp2_with fail
  refine (cutName_is hs HX HR).mono ?_; rintro e w1 ⟨rfl, hb1⟩
  have C1 := box ((C.out.next hb1).drewN 1)
  have O1 := box ((Only.of (k := g) hb1).trans (Only.of (below_drewN w1 1)))
  clear hb1
  go_wp2
  go_region_held3 (fun _ => True) (trivial) (first
    | (go_at_call 44; refine (setFirst_yes g 10 n _ (by rw [← HC.out]; exact C2.out.1.2.2.2.2.2.2.2.2.2.2) C2.out.2.2.2.2.2.2.2.2.2.2.2).mono ?_; rintro e w3 ⟨rfl, rfl⟩)
    | (go_at_call 45; refine (number_is hr HN).mono ?_; rintro e w2 ⟨rfl, hb2⟩; have C2 := box (C1.out.next hb2); have O2 := box (O1.out.trans (Only.of (k := g) hb2)); clear hb2))
  go_wp2
  go_end0
  exact ⟨rfl, C2.out.set_ms n, O2.out.setAt 10 _⟩
theorem apply_ms0 (g : Nat) (c : CT) (s x r : ByteArray) (n : Int) (w : World) (hs : s.size ≤ 65000) (HX : Box (bs (lowL (namD s.data.toList)) = x)) (HR : Box (bs (rstD s.data.toList) = r)) (hr : r.size ≤ 65000) (HN : Box (numD 2147483647 0 r.data.toList = n)) (hx : Box (x.toList = [109, 97, 120, 45, 115, 116, 97, 108, 101])) (hc : (c.ms == -1) = false) (C : Box (Ct g c w)) :
    Calls Tryd.prog 31 #[.pointer (some ⟨g, 0, none⟩), .string s] w fun e w' => e = .returned (.tuple #[]) ∧ Ct g c w' ∧ Only g w w' := by
  have h0 : (x.toList == [110, 111, 45, 115, 116, 111, 114, 101]) = false := by rw [hx.out]; decide
  have h1 : (x.toList == [110, 111, 45, 99, 97, 99, 104, 101]) = false := by rw [hx.out]; decide
  have h2 : (x.toList == [109, 117, 115, 116, 45, 114, 101, 118, 97, 108, 105, 100, 97, 116, 101]) = false := by rw [hx.out]; decide
  have h3 : (x.toList == [112, 114, 111, 120, 121, 45, 114, 101, 118, 97, 108, 105, 100, 97, 116, 101]) = false := by rw [hx.out]; decide
  have h4 : (x.toList == [112, 114, 105, 118, 97, 116, 101]) = false := by rw [hx.out]; decide
  have h5 : (x.toList == [112, 117, 98, 108, 105, 99]) = false := by rw [hx.out]; decide
  have h6 : (x.toList == [111, 110, 108, 121, 45, 105, 102, 45, 99, 97, 99, 104, 101, 100]) = false := by rw [hx.out]; decide
  have h7 : (x.toList == [109, 97, 120, 45, 97, 103, 101]) = false := by rw [hx.out]; decide
  have h8 : (x.toList == [115, 45, 109, 97, 120, 97, 103, 101]) = false := by rw [hx.out]; decide
  have h9 : (x.toList == [109, 105, 110, 45, 102, 114, 101, 115, 104]) = false := by rw [hx.out]; decide
  have h10 : (x.toList == [109, 97, 120, 45, 115, 116, 97, 108, 101]) = true := by rw [hx.out]; decide
  have HC := box hc
  clear hc
  go_enter Tryd.func31, Tryd.ntmps31
  go_wp2_with fail
  refine (cutName_is hs HX HR).mono ?_; rintro e w1 ⟨rfl, hb1⟩
  have C1 := box ((C.out.next hb1).drewN 1)
  have O1 := box ((Only.of (k := g) hb1).trans (Only.of (below_drewN w1 1)))
  clear hb1
  go_wp2
  go_region_held3 (fun _ => True) (trivial) (first
    | (go_at_call 44; refine (setFirst_no g 10 n c.ms _ (C2.out.1.2.2.2.2.2.2.2.2.2.2) HC.out).mono ?_; rintro e w3 ⟨rfl, rfl⟩)
    | (go_at_call 45; refine (number_is hr HN).mono ?_; rintro e w2 ⟨rfl, hb2⟩; have C2 := box (C1.out.next hb2); have O2 := box (O1.out.trans (Only.of (k := g) hb2)); clear hb2))
  go_wp2
  go_end0
  exact ⟨rfl, C2.out, O2.out⟩
theorem apply_no (g : Nat) (c : CT) (s x r : ByteArray) (w : World) (hs : s.size ≤ 65000) (HX : Box (bs (lowL (namD s.data.toList)) = x)) (HR : Box (bs (rstD s.data.toList) = r)) (h0 : (x.toList == [110, 111, 45, 115, 116, 111, 114, 101]) = false) (h1 : (x.toList == [110, 111, 45, 99, 97, 99, 104, 101]) = false) (h2 : (x.toList == [109, 117, 115, 116, 45, 114, 101, 118, 97, 108, 105, 100, 97, 116, 101]) = false) (h3 : (x.toList == [112, 114, 111, 120, 121, 45, 114, 101, 118, 97, 108, 105, 100, 97, 116, 101]) = false) (h4 : (x.toList == [112, 114, 105, 118, 97, 116, 101]) = false) (h5 : (x.toList == [112, 117, 98, 108, 105, 99]) = false) (h6 : (x.toList == [111, 110, 108, 121, 45, 105, 102, 45, 99, 97, 99, 104, 101, 100]) = false) (h7 : (x.toList == [109, 97, 120, 45, 97, 103, 101]) = false) (h8 : (x.toList == [115, 45, 109, 97, 120, 97, 103, 101]) = false) (h9 : (x.toList == [109, 105, 110, 45, 102, 114, 101, 115, 104]) = false) (h10 : (x.toList == [109, 97, 120, 45, 115, 116, 97, 108, 101]) = false) (C : Box (Ct g c w)) :
    Calls Tryd.prog 31 #[.pointer (some ⟨g, 0, none⟩), .string s] w fun e w' => e = .returned (.tuple #[]) ∧ Ct g c w' ∧ Only g w w' := by
  go_enter Tryd.func31, Tryd.ntmps31
  go_wp2_with fail
  refine (cutName_is hs HX HR).mono ?_; rintro e w1 ⟨rfl, hb1⟩
  have C1 := C.out.next hb1
  have O1 := box (Only.of (k := g) hb1)
  clear hb1
  have CC := box C1
  clear C1
  go_wp2
  go_end0
  exact ⟨rfl, CC.out, O1.out⟩
theorem step_ns (c : CT) (r : List UInt8) : stepC c nsN r = { c with ns := true } := by
  have n1 : ¬ (nsN = ncN) := by decide
  have n2 : ¬ (nsN = mrN) := by decide
  have n3 : ¬ (nsN = prN) := by decide
  have n4 : ¬ (nsN = pvN) := by decide
  have n5 : ¬ (nsN = pbN) := by decide
  have n6 : ¬ (nsN = ocN) := by decide
  have n7 : ¬ (nsN = maN) := by decide
  have n8 : ¬ (nsN = smN) := by decide
  have n9 : ¬ (nsN = mfN) := by decide
  have n10 : ¬ (nsN = msN) := by decide
  simp [stepC, n1, n2, n3, n4, n5, n6, n7, n8, n9, n10]
theorem step_nc (c : CT) (r : List UInt8) : stepC c ncN r = { c with nc := true } := by
  have n0 : ¬ (ncN = nsN) := by decide
  have n2 : ¬ (ncN = mrN) := by decide
  have n3 : ¬ (ncN = prN) := by decide
  have n4 : ¬ (ncN = pvN) := by decide
  have n5 : ¬ (ncN = pbN) := by decide
  have n6 : ¬ (ncN = ocN) := by decide
  have n7 : ¬ (ncN = maN) := by decide
  have n8 : ¬ (ncN = smN) := by decide
  have n9 : ¬ (ncN = mfN) := by decide
  have n10 : ¬ (ncN = msN) := by decide
  simp [stepC, n0, n2, n3, n4, n5, n6, n7, n8, n9, n10]
theorem step_mr (c : CT) (r : List UInt8) : stepC c mrN r = { c with mr := true } := by
  have n0 : ¬ (mrN = nsN) := by decide
  have n1 : ¬ (mrN = ncN) := by decide
  have n3 : ¬ (mrN = prN) := by decide
  have n4 : ¬ (mrN = pvN) := by decide
  have n5 : ¬ (mrN = pbN) := by decide
  have n6 : ¬ (mrN = ocN) := by decide
  have n7 : ¬ (mrN = maN) := by decide
  have n8 : ¬ (mrN = smN) := by decide
  have n9 : ¬ (mrN = mfN) := by decide
  have n10 : ¬ (mrN = msN) := by decide
  simp [stepC, n0, n1, n3, n4, n5, n6, n7, n8, n9, n10]
theorem step_pr (c : CT) (r : List UInt8) : stepC c prN r = { c with pr := true } := by
  have n0 : ¬ (prN = nsN) := by decide
  have n1 : ¬ (prN = ncN) := by decide
  have n2 : ¬ (prN = mrN) := by decide
  have n4 : ¬ (prN = pvN) := by decide
  have n5 : ¬ (prN = pbN) := by decide
  have n6 : ¬ (prN = ocN) := by decide
  have n7 : ¬ (prN = maN) := by decide
  have n8 : ¬ (prN = smN) := by decide
  have n9 : ¬ (prN = mfN) := by decide
  have n10 : ¬ (prN = msN) := by decide
  simp [stepC, n0, n1, n2, n4, n5, n6, n7, n8, n9, n10]
theorem step_pv (c : CT) (r : List UInt8) : stepC c pvN r = { c with pv := true } := by
  have n0 : ¬ (pvN = nsN) := by decide
  have n1 : ¬ (pvN = ncN) := by decide
  have n2 : ¬ (pvN = mrN) := by decide
  have n3 : ¬ (pvN = prN) := by decide
  have n5 : ¬ (pvN = pbN) := by decide
  have n6 : ¬ (pvN = ocN) := by decide
  have n7 : ¬ (pvN = maN) := by decide
  have n8 : ¬ (pvN = smN) := by decide
  have n9 : ¬ (pvN = mfN) := by decide
  have n10 : ¬ (pvN = msN) := by decide
  simp [stepC, n0, n1, n2, n3, n5, n6, n7, n8, n9, n10]
theorem step_pb (c : CT) (r : List UInt8) : stepC c pbN r = { c with pb := true } := by
  have n0 : ¬ (pbN = nsN) := by decide
  have n1 : ¬ (pbN = ncN) := by decide
  have n2 : ¬ (pbN = mrN) := by decide
  have n3 : ¬ (pbN = prN) := by decide
  have n4 : ¬ (pbN = pvN) := by decide
  have n6 : ¬ (pbN = ocN) := by decide
  have n7 : ¬ (pbN = maN) := by decide
  have n8 : ¬ (pbN = smN) := by decide
  have n9 : ¬ (pbN = mfN) := by decide
  have n10 : ¬ (pbN = msN) := by decide
  simp [stepC, n0, n1, n2, n3, n4, n6, n7, n8, n9, n10]
theorem step_oc (c : CT) (r : List UInt8) : stepC c ocN r = { c with oc := true } := by
  have n0 : ¬ (ocN = nsN) := by decide
  have n1 : ¬ (ocN = ncN) := by decide
  have n2 : ¬ (ocN = mrN) := by decide
  have n3 : ¬ (ocN = prN) := by decide
  have n4 : ¬ (ocN = pvN) := by decide
  have n5 : ¬ (ocN = pbN) := by decide
  have n7 : ¬ (ocN = maN) := by decide
  have n8 : ¬ (ocN = smN) := by decide
  have n9 : ¬ (ocN = mfN) := by decide
  have n10 : ¬ (ocN = msN) := by decide
  simp [stepC, n0, n1, n2, n3, n4, n5, n7, n8, n9, n10]
theorem step_ma1 (c : CT) (r : List UInt8) (h : c.ma = -1) : stepC c maN r = { c with ma := numD 0 0 r } := by
  have n0 : ¬ (maN = nsN) := by decide
  have n1 : ¬ (maN = ncN) := by decide
  have n2 : ¬ (maN = mrN) := by decide
  have n3 : ¬ (maN = prN) := by decide
  have n4 : ¬ (maN = pvN) := by decide
  have n5 : ¬ (maN = pbN) := by decide
  have n6 : ¬ (maN = ocN) := by decide
  have n8 : ¬ (maN = smN) := by decide
  have n9 : ¬ (maN = mfN) := by decide
  have n10 : ¬ (maN = msN) := by decide
  simp [stepC, h, n0, n1, n2, n3, n4, n5, n6, n8, n9, n10]
theorem step_ma0 (c : CT) (r : List UInt8) (h : ¬ c.ma = -1) : stepC c maN r = c := by
  have n0 : ¬ (maN = nsN) := by decide
  have n1 : ¬ (maN = ncN) := by decide
  have n2 : ¬ (maN = mrN) := by decide
  have n3 : ¬ (maN = prN) := by decide
  have n4 : ¬ (maN = pvN) := by decide
  have n5 : ¬ (maN = pbN) := by decide
  have n6 : ¬ (maN = ocN) := by decide
  have n8 : ¬ (maN = smN) := by decide
  have n9 : ¬ (maN = mfN) := by decide
  have n10 : ¬ (maN = msN) := by decide
  simp [stepC, h, n0, n1, n2, n3, n4, n5, n6, n8, n9, n10]
theorem step_sm1 (c : CT) (r : List UInt8) (h : c.sm = -1) : stepC c smN r = { c with sm := numD 0 0 r } := by
  have n0 : ¬ (smN = nsN) := by decide
  have n1 : ¬ (smN = ncN) := by decide
  have n2 : ¬ (smN = mrN) := by decide
  have n3 : ¬ (smN = prN) := by decide
  have n4 : ¬ (smN = pvN) := by decide
  have n5 : ¬ (smN = pbN) := by decide
  have n6 : ¬ (smN = ocN) := by decide
  have n7 : ¬ (smN = maN) := by decide
  have n9 : ¬ (smN = mfN) := by decide
  have n10 : ¬ (smN = msN) := by decide
  simp [stepC, h, n0, n1, n2, n3, n4, n5, n6, n7, n9, n10]
theorem step_sm0 (c : CT) (r : List UInt8) (h : ¬ c.sm = -1) : stepC c smN r = c := by
  have n0 : ¬ (smN = nsN) := by decide
  have n1 : ¬ (smN = ncN) := by decide
  have n2 : ¬ (smN = mrN) := by decide
  have n3 : ¬ (smN = prN) := by decide
  have n4 : ¬ (smN = pvN) := by decide
  have n5 : ¬ (smN = pbN) := by decide
  have n6 : ¬ (smN = ocN) := by decide
  have n7 : ¬ (smN = maN) := by decide
  have n9 : ¬ (smN = mfN) := by decide
  have n10 : ¬ (smN = msN) := by decide
  simp [stepC, h, n0, n1, n2, n3, n4, n5, n6, n7, n9, n10]
theorem step_mf1 (c : CT) (r : List UInt8) (h : c.mf = -1) : stepC c mfN r = { c with mf := numD 2147483647 2147483647 r } := by
  have n0 : ¬ (mfN = nsN) := by decide
  have n1 : ¬ (mfN = ncN) := by decide
  have n2 : ¬ (mfN = mrN) := by decide
  have n3 : ¬ (mfN = prN) := by decide
  have n4 : ¬ (mfN = pvN) := by decide
  have n5 : ¬ (mfN = pbN) := by decide
  have n6 : ¬ (mfN = ocN) := by decide
  have n7 : ¬ (mfN = maN) := by decide
  have n8 : ¬ (mfN = smN) := by decide
  have n10 : ¬ (mfN = msN) := by decide
  simp [stepC, h, n0, n1, n2, n3, n4, n5, n6, n7, n8, n10]
theorem step_mf0 (c : CT) (r : List UInt8) (h : ¬ c.mf = -1) : stepC c mfN r = c := by
  have n0 : ¬ (mfN = nsN) := by decide
  have n1 : ¬ (mfN = ncN) := by decide
  have n2 : ¬ (mfN = mrN) := by decide
  have n3 : ¬ (mfN = prN) := by decide
  have n4 : ¬ (mfN = pvN) := by decide
  have n5 : ¬ (mfN = pbN) := by decide
  have n6 : ¬ (mfN = ocN) := by decide
  have n7 : ¬ (mfN = maN) := by decide
  have n8 : ¬ (mfN = smN) := by decide
  have n10 : ¬ (mfN = msN) := by decide
  simp [stepC, h, n0, n1, n2, n3, n4, n5, n6, n7, n8, n10]
theorem step_ms1 (c : CT) (r : List UInt8) (h : c.ms = -1) : stepC c msN r = { c with ms := numD 2147483647 0 r } := by
  have n0 : ¬ (msN = nsN) := by decide
  have n1 : ¬ (msN = ncN) := by decide
  have n2 : ¬ (msN = mrN) := by decide
  have n3 : ¬ (msN = prN) := by decide
  have n4 : ¬ (msN = pvN) := by decide
  have n5 : ¬ (msN = pbN) := by decide
  have n6 : ¬ (msN = ocN) := by decide
  have n7 : ¬ (msN = maN) := by decide
  have n8 : ¬ (msN = smN) := by decide
  have n9 : ¬ (msN = mfN) := by decide
  simp [stepC, h, n0, n1, n2, n3, n4, n5, n6, n7, n8, n9]
theorem step_ms0 (c : CT) (r : List UInt8) (h : ¬ c.ms = -1) : stepC c msN r = c := by
  have n0 : ¬ (msN = nsN) := by decide
  have n1 : ¬ (msN = ncN) := by decide
  have n2 : ¬ (msN = mrN) := by decide
  have n3 : ¬ (msN = prN) := by decide
  have n4 : ¬ (msN = pvN) := by decide
  have n5 : ¬ (msN = pbN) := by decide
  have n6 : ¬ (msN = ocN) := by decide
  have n7 : ¬ (msN = maN) := by decide
  have n8 : ¬ (msN = smN) := by decide
  have n9 : ¬ (msN = mfN) := by decide
  simp [stepC, h, n0, n1, n2, n3, n4, n5, n6, n7, n8, n9]
theorem step_no (c : CT) (x r : List UInt8) (n0 : ¬ (x = nsN)) (n1 : ¬ (x = ncN)) (n2 : ¬ (x = mrN)) (n3 : ¬ (x = prN)) (n4 : ¬ (x = pvN)) (n5 : ¬ (x = pbN)) (n6 : ¬ (x = ocN)) (n7 : ¬ (x = maN)) (n8 : ¬ (x = smN)) (n9 : ¬ (x = mfN)) (n10 : ¬ (x = msN)) : stepC c x r = c := by
  simp [stepC, n0, n1, n2, n3, n4, n5, n6, n7, n8, n9, n10]
theorem apply_any (g : Nat) (c c2 : CT) (s : ByteArray) (w : World) (hs : s.size ≤ 65000) (h2 : Box (stepC c (lowL (namD s.data.toList)) (rstD s.data.toList) = c2)) (C : Box (Ct g c w)) :
    Calls Tryd.prog 31 #[.pointer (some ⟨g, 0, none⟩), .string s] w fun e w' => e = .returned (.tuple #[]) ∧ Ct g c2 w' ∧ Only g w w' := by
  obtain ⟨X, hX⟩ : ∃ X, lowL (namD s.data.toList) = X := ⟨_, rfl⟩
  obtain ⟨R, hR⟩ : ∃ R, rstD s.data.toList = R := ⟨_, rfl⟩
  have HX : Box (bs (lowL (namD s.data.toList)) = bs X) := box (by rw [hX])
  have HR : Box (bs (rstD s.data.toList) = bs R) := box (by rw [hR])
  have hr : (bs R).size ≤ 65000 := by
    have e1 : (bs R).size = R.length := by unfold bs; rfl
    have e2 : s.data.toList.length = s.size := by simp
    have := rst_len s.data.toList
    rw [e1, ← hR]; omega
  have hd : (bs R).data.toList = R := bs_toList R
  rw [hX, hR] at h2
  have h2 := h2.out
  subst h2
  by_cases e0 : X = nsN
  · rw [e0, step_ns]
    exact apply_ns g c s (bs X) (bs R) w hs HX HR (box (by rw [toList_bs]; exact e0)) C
  by_cases e1 : X = ncN
  · rw [e1, step_nc]
    exact apply_nc g c s (bs X) (bs R) w hs HX HR (box (by rw [toList_bs]; exact e1)) C
  by_cases e2 : X = mrN
  · rw [e2, step_mr]
    exact apply_mr g c s (bs X) (bs R) w hs HX HR (box (by rw [toList_bs]; exact e2)) C
  by_cases e3 : X = prN
  · rw [e3, step_pr]
    exact apply_pr g c s (bs X) (bs R) w hs HX HR (box (by rw [toList_bs]; exact e3)) C
  by_cases e4 : X = pvN
  · rw [e4, step_pv]
    exact apply_pv g c s (bs X) (bs R) w hs HX HR (box (by rw [toList_bs]; exact e4)) C
  by_cases e5 : X = pbN
  · rw [e5, step_pb]
    exact apply_pb g c s (bs X) (bs R) w hs HX HR (box (by rw [toList_bs]; exact e5)) C
  by_cases e6 : X = ocN
  · rw [e6, step_oc]
    exact apply_oc g c s (bs X) (bs R) w hs HX HR (box (by rw [toList_bs]; exact e6)) C
  by_cases e7 : X = maN
  · by_cases q : c.ma = -1
    · rw [e7, step_ma1 c R q]
      exact apply_ma1 g c s (bs X) (bs R) _ w hs HX HR hr (box (by rw [hd])) (box (by rw [toList_bs]; exact e7)) q C
    · rw [e7, step_ma0 c R q]
      exact apply_ma0 g c s (bs X) (bs R) _ w hs HX HR hr (box rfl) (box (by rw [toList_bs]; exact e7)) (beq_eq_false_iff_ne.2 q) C
  by_cases e8 : X = smN
  · by_cases q : c.sm = -1
    · rw [e8, step_sm1 c R q]
      exact apply_sm1 g c s (bs X) (bs R) _ w hs HX HR hr (box (by rw [hd])) (box (by rw [toList_bs]; exact e8)) q C
    · rw [e8, step_sm0 c R q]
      exact apply_sm0 g c s (bs X) (bs R) _ w hs HX HR hr (box rfl) (box (by rw [toList_bs]; exact e8)) (beq_eq_false_iff_ne.2 q) C
  by_cases e9 : X = mfN
  · by_cases q : c.mf = -1
    · rw [e9, step_mf1 c R q]
      exact apply_mf1 g c s (bs X) (bs R) _ w hs HX HR hr (box (by rw [hd])) (box (by rw [toList_bs]; exact e9)) q C
    · rw [e9, step_mf0 c R q]
      exact apply_mf0 g c s (bs X) (bs R) _ w hs HX HR hr (box rfl) (box (by rw [toList_bs]; exact e9)) (beq_eq_false_iff_ne.2 q) C
  by_cases e10 : X = msN
  · by_cases q : c.ms = -1
    · rw [e10, step_ms1 c R q]
      exact apply_ms1 g c s (bs X) (bs R) _ w hs HX HR hr (box (by rw [hd])) (box (by rw [toList_bs]; exact e10)) q C
    · rw [e10, step_ms0 c R q]
      exact apply_ms0 g c s (bs X) (bs R) _ w hs HX HR hr (box rfl) (box (by rw [toList_bs]; exact e10)) (beq_eq_false_iff_ne.2 q) C
  rw [step_no c X R e0 e1 e2 e3 e4 e5 e6 e7 e8 e9 e10]
  exact apply_no g c s (bs X) (bs R) w hs HX HR (by rw [toList_bs]; exact beq_eq_false_iff_ne.2 e0) (by rw [toList_bs]; exact beq_eq_false_iff_ne.2 e1) (by rw [toList_bs]; exact beq_eq_false_iff_ne.2 e2) (by rw [toList_bs]; exact beq_eq_false_iff_ne.2 e3) (by rw [toList_bs]; exact beq_eq_false_iff_ne.2 e4) (by rw [toList_bs]; exact beq_eq_false_iff_ne.2 e5) (by rw [toList_bs]; exact beq_eq_false_iff_ne.2 e6) (by rw [toList_bs]; exact beq_eq_false_iff_ne.2 e7) (by rw [toList_bs]; exact beq_eq_false_iff_ne.2 e8) (by rw [toList_bs]; exact beq_eq_false_iff_ne.2 e9) (by rw [toList_bs]; exact beq_eq_false_iff_ne.2 e10) C
end
section
/-- outside quoted strings (0), within one (1), behind a backslash within one (2) -/
def stepQ (s : Nat) (c : UInt8) : Nat := if s = 0 then (if c = 34 then 1 else 0) else if s = 1 then (if c = 34 then 0 else if c = 92 then 2 else 1) else 1
def pcF (sep : UInt8) : Nat → List UInt8 → List UInt8 → List UInt8 × List UInt8 × Bool
  | _, [], acc => (acc, [], false)
  | s, c :: r, acc => if s = 0 ∧ c = sep then (acc, r, true) else pcF sep (stepQ s c) r (acc ++ [c])
def pcL (sep : UInt8) (l : List UInt8) : List UInt8 × List UInt8 × Bool := pcF sep 0 l []
def moreL (sep : UInt8) (m : Bool) (l : List UInt8) : List (List UInt8) := if m then cutL sep l else []
theorem pcF_cons (sep : UInt8) (s : Nat) (c : UInt8) (r acc : List UInt8) : pcF sep s (c :: r) acc = if s = 0 ∧ c = sep then (acc, r, true) else pcF sep (stepQ s c) r (acc ++ [c]) := rfl
def qS (q : Bool) : Nat := if q = true then 1 else 0
theorem cut_pc {sep : UInt8} (hs : sep ≠ 34) : ∀ (f : Nat) (q : Bool) (l acc : List UInt8), l.length ≤ f → cutF sep f q l acc = (pcF sep (qS q) l acc).1 :: moreL sep (pcF sep (qS q) l acc).2.2 (pcF sep (qS q) l acc).2.1
  | f, q, [], acc, _ => by rw [cutF_nil]; rfl
  | 0, q, c :: r, acc, h => by simp at h
  | f + 1, q, c :: r, acc, h => by
    simp only [List.length_cons] at h
    rw [cutF_cons, pcF_cons]
    by_cases h1 : q = true ∧ c = 92
    · obtain ⟨rfl, rfl⟩ := h1
      rw [if_pos ⟨rfl, rfl⟩, if_neg (fun h => absurd h.1 (by decide))]
      match r, h with
      | [], h => rfl
      | d :: r2, h =>
        simp only [List.length_cons] at h
        simp only
        rw [cut_pc hs f true r2 _ (by omega), pcF_cons, if_neg (fun h => absurd h.1 (by decide)), List.append_assoc]
        rfl
    · rw [if_neg h1]
      by_cases h2 : c = 34
      · subst h2
        rw [if_pos rfl, if_neg (fun h => hs h.2.symm), cut_pc hs f (!q) r _ (by omega)]
        cases q <;> rfl
      · rw [if_neg h2]
        by_cases h3 : c = sep ∧ q = false
        · obtain ⟨rfl, rfl⟩ := h3
          rw [if_pos ⟨rfl, rfl⟩, if_pos ⟨rfl, rfl⟩]
          show acc :: cutF c f false r [] = acc :: cutF c r.length false r []
          rw [cutF_fuel f r.length false r [] (by omega) (Nat.le_refl _)]
        · rw [if_neg h3]
          have e : stepQ (qS q) c = qS q := by
            unfold stepQ
            cases q
            · show (if (0 : Nat) = 0 then _ else _) = _
              rw [if_pos rfl, if_neg h2]; rfl
            · show (if (1 : Nat) = 0 then _ else if (1 : Nat) = 1 then _ else _) = _
              rw [if_neg (by decide), if_pos rfl, if_neg h2, if_neg (fun h => h1 ⟨rfl, h⟩)]; rfl
          have n : ¬ (qS q = 0 ∧ c = sep) := by
            rintro ⟨h5, h6⟩
            cases q
            · exact h3 ⟨h6, rfl⟩
            · exact absurd h5 (by decide)
          rw [if_neg n, e, cut_pc hs f q r _ (by omega)]
theorem cutL_pc {sep : UInt8} (hs : sep ≠ 34) (l : List UInt8) : cutL sep l = (pcL sep l).1 :: moreL sep (pcL sep l).2.2 (pcL sep l).2.1 := cut_pc hs l.length false l [] (Nat.le_refl _)
/-- the steps, by places -/
def pcAt (sep : UInt8) (s : Nat) (l : List UInt8) (k : Nat) : List UInt8 × List UInt8 × Bool := pcF sep s (l.drop k) (l.take k)
theorem pc_start (sep : UInt8) (l : List UInt8) : pcL sep l = pcAt sep 0 l 0 := by unfold pcL pcAt; simp
theorem pc_end {sep : UInt8} {s : Nat} {l : List UInt8} {k : Nat} (h : l.length ≤ k) : pcAt sep s l k = (l, [], false) := by
  unfold pcAt; rw [List.drop_of_length_le h, List.take_of_length_le h]; rfl
theorem pc_sep {sep : UInt8} {l : List UInt8} {k : Nat} (hk : k < l.length) (h : l[k] = sep) : pcAt sep 0 l k = (l.take k, l.drop (k + 1), true) := by
  unfold pcAt; rw [List.drop_eq_getElem_cons hk, pcF_cons, if_pos ⟨rfl, h⟩]
theorem pc_step {sep : UInt8} {s : Nat} {l : List UInt8} {k : Nat} (hk : k < l.length) (h : ¬ (s = 0 ∧ l[k] = sep)) : pcAt sep s l k = pcAt sep (stepQ s l[k]) l (k + 1) := by
  unfold pcAt
  rw [List.drop_eq_getElem_cons hk, pcF_cons, if_neg h, List.take_add_one, List.getElem?_eq_getElem hk]; rfl
theorem stepQ_le (s : Nat) (c : UInt8) : stepQ s c ≤ 2 := by unfold stepQ; repeat' split <;> try omega
/-- sizes -/
theorem pcF_size (sep : UInt8) : ∀ (l : List UInt8) (s : Nat) (acc : List UInt8), (pcF sep s l acc).1.length + (pcF sep s l acc).2.1.length ≤ acc.length + l.length ∧ ((pcF sep s l acc).2.2 = true → (pcF sep s l acc).2.1.length < l.length)
  | [], s, acc => ⟨by simp [pcF], fun h => by simp [pcF] at h⟩
  | c :: r, s, acc => by
    rw [pcF_cons]
    split
    · refine ⟨by simp only [List.length_cons]; omega, fun _ => by simp⟩
    · obtain ⟨h1, h2⟩ := pcF_size sep r (stepQ s c) (acc ++ [c])
      simp only [List.length_append, List.length_cons, List.length_nil] at h1 ⊢
      exact ⟨by omega, fun h => by have := h2 h; omega⟩
/-- the members of a value behind others, as long as there is room -/
def addL (A : List (List UInt8)) (ps : List (List UInt8)) : List (List UInt8) := (A ++ memL ps).take 64
theorem addL_nil {A : List (List UInt8)} (h : A.length ≤ 64) : addL A [] = A := by unfold addL memL; simp [List.take_of_length_le h]
theorem addL_full {A ps : List (List UInt8)} (h : A.length = 64) : addL A ps = A := by
  unfold addL; rw [List.take_append_of_le_length (by omega), List.take_of_length_le (by omega)]
theorem memL_cons (p : List UInt8) (ps : List (List UInt8)) : memL (p :: ps) = (if trimL p = [] then [] else [trimL p]) ++ memL ps := by
  rw [show p :: ps = [p] ++ ps from rfl, memL_append]
  congr 1
  split
  · rename_i e; unfold memL; simp [e]
  · rename_i e; exact memL_one e
theorem addL_blank {A ps : List (List UInt8)} {p : List UInt8} (h : trimL p = []) : addL A (p :: ps) = addL A ps := by unfold addL; rw [memL_cons, if_pos h, List.nil_append]
theorem addL_more {A ps : List (List UInt8)} {p : List UInt8} (h : trimL p ≠ []) : addL A (p :: ps) = addL (A ++ [trimL p]) ps := by unfold addL; rw [memL_cons, if_neg h, List.append_assoc]
theorem addL_all {vs : List ByteArray} {k : Nat} (h : k < vs.length) : (allF (vs.take (k + 1))).take 64 = addL ((allF (vs.take k)).take 64) (cutL 44 vs[k].data.toList) := by
  rw [allF_more h]
  unfold addL splitL
  generalize (allF (vs.take k)).take 64 = X
  rw [List.take_append, List.take_append, List.take_take]
  congr 2
  omega
end
section
open Go.RowKit
/-- at the address lie the fields L, one behind the other -/
def Fs (w : World) (a : Option Addr) (L : List F) : Prop :=
  ∀ i (h : i < L.length), ∃ g off, a = some ⟨g, off, none⟩ ∧ w.cell? ⟨g, off + i * 2, none⟩ = some (.string L[i].1) ∧ w.cell? ⟨g, off + i * 2 + 1, none⟩ = some (.string L[i].2)
theorem Fs.below {w w' : World} {a : Option Addr} {L : List F} (h : Fs w a L) (hb : Below w.heap.size w w') : Fs w' a L := fun i hi => by
  obtain ⟨g, off, e, c0, c1⟩ := h i hi
  exact ⟨g, off, e, (hb.cell (cell_lt c0)).trans c0, (hb.cell (cell_lt c1)).trans c1⟩
theorem keepFields_any (a : Option Addr) (cap : Nat) (L : List F) (w : World) (hl : L.length ≤ maxLen) (hF : Box (Fs w a L)) :
    Calls Tryd.prog 9 #[.slice a L.length cap] w fun e w' => e = .returned (.bool (keepF L)) ∧ w = w' := by
  unfold maxLen at hl
  go_enter Tryd.func9, Tryd.ntmps9
  go_wp2
  go_loop [3] (fun i => ∃ k : Nat, k ≤ L.length ∧ k ≤ 71 ∧ i = .int .i64 k ∧ (L.take k).all okF = true) (fun i => 71 - (intOf i).toNat)
  case atStart => exact ⟨0, Nat.zero_le _, Nat.zero_le _, rfl, rfl⟩
  case round =>
    obtain ⟨k, hk, hk71, rfl, hall⟩ := hrel
    have HA := box hall
    clear hall
    by_cases hlt : k < L.length
    · by_cases h71 : k < 71
      · obtain ⟨g, off, rfl, c0, c1⟩ := hF.out k hlt
        go_wp2
        · have e1 : ¬ (L[k].1.size ≤ 300 ∧ L[k].2.size ≤ 300) := by omega
          go_ret
          exact ⟨ret_bool (keep_bad hlt e1).symm, rfl⟩
        · have e1 : L[k].1.size ≤ 300 := by omega
          have e2 : L[k].2.size ≤ 300 := by omega
          go_round
          case rel => exact ⟨k + 1, by omega, by omega, by go_num, keep_more hlt HA.out e1 e2⟩
          case measure => simp [intOf]; omega
        · have e1 : ¬ (L[k].1.size ≤ 300 ∧ L[k].2.size ≤ 300) := by omega
          go_ret
          exact ⟨ret_bool (keep_bad hlt e1).symm, rfl⟩
      · go_wp2
        go_ret
        exact ⟨ret_bool (by rw [keep_long (by omega)]; simp; omega), rfl⟩
    · have e : k = L.length := by omega
      have E := box e
      clear e
      by_cases h70 : L.length ≤ 70
      · go_wp2
        go_ret
        refine ⟨ret_bool ?_, rfl⟩
        have ha := HA.out
        rw [E.out] at ha
        rw [keep_end ha h70]
        simp; omega
      · go_wp2
        go_ret
        exact ⟨ret_bool (by rw [keep_long h70]; simp; omega), rfl⟩
end
section
open Go.RowKit
/-- the name lies in the block that the function value has captured -/
def Nm (g : Nat) (nm : ByteArray) (w : World) : Prop := w.cell? ⟨g, 0, none⟩ = some (.string nm)
theorem Nm.below {w w' : World} {g : Nat} {nm : ByteArray} (h : Nm g nm w) (hb : Below w.heap.size w w') : Nm g nm w' := (hb.cell (cell_lt h)).trans h
def nmV (g : Nat) : Value := .func (.func 66) #[] #[.pointer (some ⟨g, 0, none⟩)]
theorem named_any (nm : ByteArray) (w : World) :
    Calls Tryd.prog 47 #[.string nm] w fun e w' => e = .returned (nmV w.heap.size) ∧ w' = w.alloc (.cells #[.string nm] 9) := by
  have hmf : ∀ (fn : Fn) (first cap : Array Value) (w : World), (Instr.makeFunc fn first cap).run Tryd.prog w = .ok (.func fn first cap) w := fun _ _ _ _ => rfl
  go_enter Tryd.func47, Tryd.ntmps47
  go_wp2
  go_ret
  exact ⟨rfl, rfl⟩
theorem clo_any (g : Nat) (nm n v : ByteArray) (w : World) (N : Box (n.size ≤ 65536)) (M : Box (nm.size ≤ 65536)) (h : Box (Nm g nm w)) :
    Calls Tryd.prog 66 #[.agg #[.string n, .string v], .pointer (some ⟨g, 0, none⟩)] w fun e w' => e = .returned (.bool (nmd nm (n, v))) ∧ Below w.heap.size w w' := by
  have c0 : w.cell? ⟨g, 0, none⟩ = some (.string nm) := h.out
  have hlt := cell_lt c0
  simp only at hlt
  go_enter Tryd.func66, Tryd.ntmps66
  go_wp2_with fail
  refine (Fold_any _ _ _ (small_max N).out (small_max M).out).mono ?_; rintro e w1 ⟨rfl, hb1⟩
  go_wp2
  go_ret
  exact ⟨rfl, (below_new w _).trans (hb1.mono (below_new w _).size)⟩
/-- all names are small -/
def Sm (L : List F) : Prop := L.length ≤ 65536 ∧ ∀ i (h : i < L.length), L[i].1.size ≤ 65536 ∧ L[i].2.size ≤ 65536
set_option maxHeartbeats 400000 in
theorem IndexFunc_any (a : Option Addr) (cap : Nat) (L : List F) (g : Nat) (nm : ByteArray) (w : World) (hl : L.length ≤ 65536) (S : Box (Sm L)) (M : Box (nm.size ≤ 65536)) (hF : Box (Fs w a L)) (hN : Box (Nm g nm w)) :
    Calls Tryd.prog 46 #[.slice a L.length cap, nmV g] w fun e w' => e = .returned (.int .i64 (idxL nm L)) ∧ Below w.heap.size w w' := by
  unfold nmV
  go_enter Tryd.func46, Tryd.ntmps46
  go_wp2
  go_loopw [8] (fun i wr => ∃ k : Nat, k ≤ L.length ∧ i = .int .i64 k ∧ (L.take k).any (nmd nm) = false ∧ Below w.heap.size w wr) (fun i _ => L.length - (intOf i).toNat)
  case atStart => exact ⟨0, Nat.zero_le _, rfl, rfl, Below.refl _ _⟩
  case round =>
    obtain ⟨k, hk, rfl, hall, hbel⟩ := hrel
    have HA := box hall
    clear hall
    by_cases hlt : k < L.length
    · obtain ⟨q, off, rfl, c0, c1⟩ := (hF.out.below hbel) k hlt
      have N := box (hN.out.below hbel)
      have B1 := box ((S.out.2 k hlt).1)
      go_wp2_with fail
      refine (clo_any g nm L[k].1 L[k].2 _ B1 M N).mono ?_; rintro e w1 ⟨rfl, hb1⟩
      go_wp2
      · have e1 : nmd nm L[k] = true := by assumption
        go_ret
        exact ⟨ret_int (idx_hit hlt HA.out e1).symm, (hbel.mono (Nat.le_refl _)).trans (hb1.mono hbel.size)⟩
      · have e1 : nmd nm L[k] = false := by assumption
        go_roundw
        case rel => exact ⟨k + 1, by omega, by go_num, none_more hlt HA.out e1, hbel.trans (hb1.mono hbel.size)⟩
        case measure => simp [intOf]; omega
    · have e : k = L.length := by omega
      go_wp2
      go_ret
      exact ⟨ret_int (idx_end (by rw [← e]; exact HA.out)).symm, hbel⟩
theorem Nm.new (nm : ByteArray) (w : World) (t : TypeId) : Nm w.heap.size nm (w.alloc (.cells #[.string nm] t)) := by
  unfold Nm; rw [World.cell?_alloc_at _ _ _ _ rfl]; rfl
/-- the first value, and whether there is one -/
def firstV (nm : ByteArray) (L : List F) : Value :=
  match getL nm L with
  | [] => .tuple #[.string ⟨#[]⟩, .bool false]
  | v :: _ => .tuple #[.string v, .bool true]
theorem get_none {nm : ByteArray} {L : List F} (h : L.any (nmd nm) = false) : getL nm L = [] := by
  unfold getL
  rw [List.filter_eq_nil_iff.mpr (fun p hp => by rw [none_not h p hp]; simp)]; rfl
theorem get_at {nm : ByteArray} {L : List F} {k : Nat} (h : k < L.length) (ha : (L.take k).any (nmd nm) = false) (h1 : nmd nm L[k] = true) : getL nm L = L[k].2 :: getL nm (L.drop (k + 1)) := by
  unfold getL
  conv => lhs; rw [split_at h]
  rw [List.filter_append, List.filter_eq_nil_iff.mpr (fun p hp => by rw [none_not ha p hp]; simp), List.nil_append, List.filter_cons, h1]
  rfl
theorem First_any (a : Option Addr) (cap : Nat) (L : List F) (nm : ByteArray) (w : World) (hl : L.length ≤ 65536) (S : Box (Sm L)) (M : Box (nm.size ≤ 65536)) (hF : Box (Fs w a L)) :
    Calls Tryd.prog 32 #[.slice a L.length cap, .string nm] w fun e w' => e = .returned (firstV nm L) ∧ Below w.heap.size w w' := by
  rcases idx_ways nm L with ⟨hi, hn⟩ | ⟨k, hk, hi, ha, h1⟩
  · have HI := box hi
    have HN := box hn
    clear hi hn
    go_enter Tryd.func32, Tryd.ntmps32
    go_wp2_with fail
    refine (named_any nm _).mono ?_; rintro e w1 ⟨rfl, rfl⟩
    go_wp2_with fail
    refine (IndexFunc_any a cap L _ nm _ hl S M (box (hF.out.below (below_new _ _))) (box (Nm.new nm w _))).mono ?_; rintro e w2 ⟨rfl, hb2⟩; rw [HI.out]
    go_wp2
    go_ret2
    exact ⟨by unfold firstV; rw [get_none HN.out]; rfl, (below_new w _).trans (hb2.mono (below_new w _).size)⟩
  · have HI := box hi
    have HA := box ha
    have H1 := box h1
    clear hi ha h1
    go_enter Tryd.func32, Tryd.ntmps32
    go_wp2_with fail
    refine (named_any nm _).mono ?_; rintro e w1 ⟨rfl, rfl⟩
    go_wp2_with fail
    refine (IndexFunc_any a cap L _ nm _ hl S M (box (hF.out.below (below_new _ _))) (box (Nm.new nm w _))).mono ?_; rintro e w2 ⟨rfl, hb2⟩; rw [HI.out]
    have b2 := (below_new w _).trans (hb2.mono (below_new w _).size)
    obtain ⟨q, off, rfl, c0, c1⟩ := (hF.out.below b2) k hk
    clear hb2
    go_wp2
    go_ret2
    exact ⟨by unfold firstV; rw [get_at hk HA.out H1.out]; rfl, b2⟩
end
section
open Go.RowKit
theorem info_fld : (Tryd.prog.info? 36).map (fun i => (i.zero, i.size, i.bytes)) = some (some (.agg #[.string ⟨#[]⟩, .string ⟨#[]⟩]), 2, 32) := by kernel_rfl
def cellsF (L : List F) : List Value := L.flatMap fun p => [.string p.1, .string p.2]
theorem cellsF_len (L : List F) : (cellsF L).length = L.length * 2 := by
  induction L with
  | nil => rfl
  | cons p L ih => simp only [cellsF, List.flatMap_cons, List.length_append, List.length_cons, List.length_nil] at *; omega
theorem cellsF_app (L M : List F) : cellsF (L ++ M) = cellsF L ++ cellsF M := by simp [cellsF]
theorem cellsF_at (L : List F) (i : Nat) (h : i < L.length) : (cellsF L)[i * 2]? = some (.string L[i].1) ∧ (cellsF L)[i * 2 + 1]? = some (.string L[i].2) := by
  have e := split_at h
  have hl : (cellsF (L.take i)).length = i * 2 := by rw [cellsF_len, List.length_take, Nat.min_eq_left (Nat.le_of_lt h)]
  have e2 : cellsF L = cellsF (L.take i) ++ (.string L[i].1 :: .string L[i].2 :: cellsF (L.drop (i + 1))) := by
    conv => lhs; rw [e, cellsF_app]
    rfl
  rw [e2]
  constructor
  · rw [List.getElem?_append_right (by omega), hl]; simp
  · rw [List.getElem?_append_right (by omega), hl]; simp
def OwnF (w : World) (B : Nat) (v : Value) (L : List F) : Prop := w.ownsRow B 36 2 v L.length (cellsF L)
section
variable {w w' : World} {B : Nat} {v : Value}
theorem OwnF.nil (w : World) (B : Nat) : OwnF w B (.slice none 0 0) [] := World.ownsRow_nil _ _ _ _
/-- what a slice of fields that a call owns looks like -/
theorem OwnF.fs {L : List F} (h : OwnF w B v L) : ∃ a cap, v = .slice a L.length cap ∧ Fs w a L ∧ L.length ≤ cap := by
  rcases h.2 with ⟨rfl, hn⟩ | ⟨g, cap, cur, rfl, hB, hg, hc, hm, hs, ht⟩
  · exact ⟨none, 0, by rw [hn], fun i hi => by omega, by omega⟩
  · refine ⟨_, cap, rfl, fun i hi => ⟨g, 0, rfl, ?_, ?_⟩, hc⟩
    all_goals
      obtain ⟨q0, q1⟩ := cellsF_at L i hi
      rw [← ht] at q0 q1
      rw [List.getElem?_take] at q0 q1
      rw [if_pos (by omega)] at q0 q1
      simp only [World.cell?, hg]
    · simpa using q0
    · simpa [Nat.add_assoc] using q1
end
/-- append of one field that lies in a block of its own -/
theorem wpList_append_fld (w : World) {ops : Array Oper} {rest : List Oper} {o : Oper} {a : Act} {Q : Exit → Act → World → Prop} (hgd : o.guard = none) (s x : Operand)
    (ho : o.op = .call { callee := .builtin .append, args := #[s, x], argTypes := #[22, 22] })
    (B : Nat) (v : Value) (L : List F) (hs : a.eval s = v) (hown : OwnF w B v L)
    (g : Nat) (c : Nat) (hx : a.eval x = .slice (some ⟨g, 0, none⟩) 1 c) (n u : ByteArray) (h0 : w.cell? ⟨g, 0, none⟩ = some (.string n)) (h1 : w.cell? ⟨g, 1, none⟩ = some (.string u)) (hl : L.length ≤ 65536) (hB : B ≤ w.heap.size)
    (h : ∀ v' w', OwnF w' B v' (L ++ [(n, u)]) → Below B w w' → wpList Tryd.prog ops Q rest (a.put o.dst v') w') : wpList Tryd.prog ops Q (o :: rest) a w := by
  obtain ⟨i0, hi0, hz0, hz1, hz2⟩ := info_parts info_fld
  refine wpList_append_own (P := Tryd.prog) w hgd s x 22 ho B 36 i0 _ 2 32 Tryd.underlying22 hi0 hz0 hz1 hz2 rfl (by decide) v L.length (cellsF L) hs hown ⟨g, 0, none⟩ 1 c [.string n, .string u] hx rfl ?_ ?_ (by unfold maxLen; omega) (by omega) hB ?_
  · intro j u hj
    match j, hj with
    | 0, hj => simp at hj; subst hj; simpa [Addr.add] using h0
    | 1, hj => simp at hj; subst hj; simpa [Addr.add] using h1
  · intro u hu; simp at hu; rcases hu with rfl | rfl <;> rfl
  · intro v' w' q1 q2 _
    refine h v' w' (by simpa [OwnF, cellsF_app, cellsF] using q1) ((Below.refl _ _).grown q2 hB (fun k hk => own_block hown k hk))
end
end Go.Proofs.YteemoibikkmlbaaDoor.Asc
