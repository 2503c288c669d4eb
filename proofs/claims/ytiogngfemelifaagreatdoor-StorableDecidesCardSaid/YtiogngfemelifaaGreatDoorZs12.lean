/- Merged texts: DatRef DatRef2 DatRef3 DatRef4 DatRef5 FrsRef FrsRef2. -/
import Derived.Test.YtiogngfemelifaaGreatDoorZs01
import Derived.Test.YtiogngfemelifaaGreatDoorZs03
import Derived.Test.YtiogngfemelifaaGreatDoorZs05
import Derived.Test.YtiogngfemelifaaGreatDoorZs08
import Derived.Test.YtiogngfemelifaaGreatDoorZs11
import Derived.BigQuiet
import Derived.Deep.RegionHeld3
set_option linter.unusedVariables false
set_option linter.unusedSimpArgs false
set_option maxRecDepth 100000
namespace Go.Proofs.YtiogngfemelifaaGreatDoor.Asc
section
open Go.RowKit
theorem rLeap_any (y : Nat) (w : World) (h : y ≤ 20000) : Calls Tryz.prog 118 #[.int .i64 y] w fun e w' => e = .returned (.bool (leapN y)) ∧ w = w' := by
  have i4 : ((y : Int) % 4 == 0) = (y % 4 == 0) := by rw [Bool.eq_iff_iff, beq_iff_eq, beq_iff_eq]; omega
  have i100 : ((y : Int) % 100 != 0) = (y % 100 != 0) := by rw [Bool.eq_iff_iff, bne_iff_ne, bne_iff_ne]; omega
  have i400 : ((y : Int) % 400 == 0) = (y % 400 == 0) := by rw [Bool.eq_iff_iff, beq_iff_eq, beq_iff_eq]; omega
  have HL : Box (leapN y = (y % 4 == 0 && (y % 100 != 0 || y % 400 == 0))) := box rfl
  rcases h4 : (y % 4 == 0) with _ | _
  all_goals rcases h100 : (y % 100 != 0) with _ | _
  all_goals rcases h400 : (y % 400 == 0) with _ | _
  all_goals
    rw [h4] at i4; rw [h100] at i100; rw [h400] at i400
    rw [h4, h100, h400] at HL
    clear h4 h100 h400
    go_enter Tryz.func118, Tryz.ntmps118
    go_wp2
    go_ret
    exact ⟨by rw [HL.out]; rfl, rfl⟩
theorem rLength_any (y m : Nat) (w : World) (h : y ≤ 20000) (h1 : 1 ≤ m) (h2 : m ≤ 12) : Calls Tryz.prog 117 #[.int .i64 y, .int .i64 m] w fun e w' => e = .returned (.int .i64 (lenM (leapN y) m)) ∧ w = w' := by
  have hm : m = 1 ∨ m = 2 ∨ m = 3 ∨ m = 4 ∨ m = 5 ∨ m = 6 ∨ m = 7 ∨ m = 8 ∨ m = 9 ∨ m = 10 ∨ m = 11 ∨ m = 12 := by omega
  have HY := box h
  clear h h1 h2
  rcases hl : leapN y with _ | _
  all_goals
    have HL := box hl
    clear hl
    rcases hm with rfl | rfl | rfl | rfl | rfl | rfl | rfl | rfl | rfl | rfl | rfl | rfl
  all_goals
    go_enter Tryz.func117, Tryz.ntmps117
    go_wp2_with (go_at_call 118; refine (rLeap_any _ _ HY.out).mono ?_; rintro e w' ⟨rfl, rfl⟩; rw [HL.out])
    go_ret
    exact ⟨rfl, rfl⟩
end
section
open Go.RowKit
theorem rDays_in (Y M D : Nat) (w : World) (h : IsDay Y M D) :
    Calls Tryz.prog 89 #[.int .i64 Y, .int .i64 M, .int .i64 D] w fun e w' => e = .returned (.int .i64 (dayN Y M D : Nat)) ∧ w = w' := by
  obtain ⟨⟨y1, y2⟩, ⟨m1, m2⟩, d1, d2⟩ := h
  have d3 := (len_le (leapN Y) m1 m2).1
  obtain ⟨L, hL⟩ : ∃ L, lenM (leapN Y) M = L := ⟨_, rfl⟩
  rw [hL] at d2 d3
  have HL := box hL
  have HV : Box (((D - 1 + dbyN Y : Nat) : Int) + cumM (leapN Y) M = (dayN Y M D : Nat)) := box (by unfold dayN; omega)
  have hd0 : ((D : Int) - 1) = ((D - 1 : Nat) : Int) := by omega
  have i1 : ¬ (Y : Int) < 1970 := by omega
  have i2 : ¬ (9999 : Int) < (Y : Int) := by omega
  have i3 : ¬ (M : Int) < 1 := by omega
  have i4 : ¬ (12 : Int) < (M : Int) := by omega
  have i5 : ¬ (D : Int) < 1 := by omega
  have i6 : ¬ (L : Int) < (D : Int) := by omega
  have i7 : decide (L < D) = false := decide_eq_false (by omega)
  clear hL
  go_enter Tryz.func89, Tryz.ntmps89
  go_wp2_with (go_at_call 117; refine (rLength_any _ _ _ (by omega) m1 m2).mono ?_; rintro e w' ⟨rfl, rfl⟩; rw [HL.out])
  go_loop [7, 8] (fun n i => ∃ k : Nat, 1970 ≤ k ∧ k ≤ Y ∧ i = .int .i64 k ∧ n = .int .i64 (D - 1 + dbyN k : Nat)) (fun _ i => Y - (intOf i).toNat)
  case atStart => exact ⟨1970, by omega, y1, rfl, by go_num⟩
  case round =>
    obtain ⟨k, k1, k2, rfl, rfl⟩ := hrel
    have k3 := dby_le k1 (by omega)
    by_cases hlt : k < Y
    · have hi : (k : Int) < (Y : Int) := by omega
      have k4 := dby_le (y := k + 1) (by omega) (by omega)
      rcases hl : leapN k with _ | _
      · have HK := box hl
        have HN : Box (((D - 1 + dbyN k : Nat) : Int) + 365 = ((D - 1 + dbyN (k + 1) : Nat) : Int)) := box (by rw [dby_flat k1 hl]; omega)
        clear hl
        go_wp2_with (go_at_call 118; refine (rLeap_any _ _ (by omega)).mono ?_; rintro e w' ⟨rfl, rfl⟩; rw [HK.out])
        go_round
        case rel => exact ⟨k + 1, by omega, by omega, by go_num, by rw [← HN.out]; simp only [Int.natCast_add]⟩
        case measure => simp [intOf]; omega
      · have HK := box hl
        have HN : Box (((D - 1 + dbyN k : Nat) : Int) + 365 + 1 = ((D - 1 + dbyN (k + 1) : Nat) : Int)) := box (by rw [dby_leap k1 hl]; omega)
        clear hl
        go_wp2_with (go_at_call 118; refine (rLeap_any _ _ (by omega)).mono ?_; rintro e w' ⟨rfl, rfl⟩; rw [HK.out])
        go_round
        case rel => exact ⟨k + 1, by omega, by omega, by go_num, by rw [← HN.out]; simp only [Int.natCast_add]⟩
        case measure => simp [intOf]; omega
    · have hi : ¬ (k : Int) < (Y : Int) := by omega
      obtain rfl : k = Y := by omega
      go_wp2
      go_loop [7, 9] (fun n i => ∃ j : Nat, 1 ≤ j ∧ j ≤ M ∧ i = .int .i64 j ∧ n = .int .i64 (D - 1 + dbyN k + cumM (leapN k) j : Nat)) (fun _ i => M - (intOf i).toNat)
      case atStart => exact ⟨1, by omega, m1, rfl, by rw [show cumM (leapN k) 1 = 0 from rfl]; rfl⟩
      case round =>
        obtain ⟨j, j1, j2, rfl, rfl⟩ := hrel
        have j3 := cum_le (leapN k) (m := j) (by omega)
        by_cases hjt : j < M
        · have hj : (j : Int) < (M : Int) := by omega
          have hn := cum_next (leapN k) j1
          obtain ⟨q, hq⟩ : ∃ q, lenM (leapN k) j = q := ⟨_, rfl⟩
          have q2 := (len_le (leapN k) j1 (by omega : j ≤ 12)).1
          rw [hq] at hn q2
          have HQ := box hq
          have HN : Box (((D - 1 + dbyN k + cumM (leapN k) j : Nat) : Int) + (q : Int) = ((D - 1 + dbyN k + cumM (leapN k) (j + 1) : Nat) : Int)) := box (by rw [hn]; omega)
          clear hq hn
          go_wp2_with (go_at_call 117; refine (rLength_any _ _ _ (by omega) j1 (by omega)).mono ?_; rintro e w' ⟨rfl, rfl⟩; rw [HQ.out])
          go_round
          case rel => exact ⟨j + 1, by omega, by omega, by go_num, by rw [← HN.out]; simp only [Int.natCast_add]⟩
          case measure => simp [intOf]; omega
        · have hj : ¬ (j : Int) < (M : Int) := by omega
          obtain rfl : j = M := by omega
          go_wp2
          go_ret
          exact ⟨ret_int (by have := HV.out; push_cast at this ⊢; omega), rfl⟩
theorem rDays_any (y m d : Int) (w : World) :
    Calls Tryz.prog 89 #[.int .i64 y, .int .i64 m, .int .i64 d] w fun e w' => e = .returned (.int .i64 (daysV y m d)) ∧ w = w' := by
  rcases days_cases y m d with ⟨a, b, c, rfl, rfl, rfl, hD, hV⟩ | ⟨hN, hV⟩
  · rw [hV]; exact rDays_in a b c w hD
  · rw [hV]
    by_cases c1 : y < 1970
    · go_enter Tryz.func89, Tryz.ntmps89
      go_wp2
      go_ret
      exact ⟨rfl, rfl⟩
    by_cases c2 : 9999 < y
    · go_enter Tryz.func89, Tryz.ntmps89
      go_wp2
      go_ret
      exact ⟨rfl, rfl⟩
    by_cases c3 : m < 1
    · go_enter Tryz.func89, Tryz.ntmps89
      go_wp2
      go_ret
      exact ⟨rfl, rfl⟩
    by_cases c4 : 12 < m
    · go_enter Tryz.func89, Tryz.ntmps89
      go_wp2
      go_ret
      exact ⟨rfl, rfl⟩
    by_cases c5 : d < 1
    · go_enter Tryz.func89, Tryz.ntmps89
      go_wp2
      go_ret
      exact ⟨rfl, rfl⟩
    obtain ⟨Y, rfl⟩ : ∃ Y : Nat, y = Y := ⟨y.toNat, by omega⟩
    obtain ⟨M, rfl⟩ : ∃ M : Nat, m = M := ⟨m.toNat, by omega⟩
    obtain ⟨D, rfl⟩ : ∃ D : Nat, d = D := ⟨d.toNat, by omega⟩
    have hL : lenM (leapN Y) M < D := by
      refine Nat.lt_of_not_le fun q => hN ⟨⟨by omega, by omega, by omega⟩, ⟨by omega, by omega⟩, ⟨by omega, by omega⟩, by omega, q⟩
    obtain ⟨L, hl⟩ : ∃ L, lenM (leapN Y) M = L := ⟨_, rfl⟩
    rw [hl] at hL
    have HL := box hl
    have c6 : (L : Int) < (D : Int) := by omega
    clear hl hN hV
    go_enter Tryz.func89, Tryz.ntmps89
    go_wp2_with (go_at_call 117; refine (rLength_any _ _ _ (by omega) (by omega) (by omega)).mono ?_; rintro e w' ⟨rfl, rfl⟩; rw [HL.out])
    go_ret
    exact ⟨rfl, rfl⟩
end
section
open Go.RowKit
theorem cutD_get {l : List UInt8} {a b j : Nat} (h1 : a ≤ j) (h2 : j < b) (h3 : b ≤ l.length) : (cutD l a b)[j - a]? = l[j]? := by
  unfold cutD
  rw [List.getElem?_drop, List.getElem?_take, if_pos (by omega), show a + (j - a) = j from by omega]
theorem num_bad {s : ByteArray} {a b j : Nat} (h1 : a ≤ j) (h2 : j < b) (h3 : b ≤ s.size) (hj : j < s.size) (hp : digitI (s[j].toNat) = false) : numL (cutD s.data.toList a b) = none := by
  unfold numL
  rw [if_neg]
  rintro ⟨h, _⟩
  have hg := cutD_get (l := s.data.toList) h1 h2 (by simpa using h3)
  rw [List.getElem?_eq_getElem (l := s.data.toList) (i := j) (by simpa using hj)] at hg
  have hm := List.mem_of_getElem? hg
  have e : s.data.toList[j]'(by simpa using hj) = s[j] := rfl
  rw [e] at hm
  have := (List.all_eq_true.1 (show (cutD s.data.toList a b).all (fun c => digitI (c.toNat : Int)) = true from h)) _ hm
  rw [hp] at this; cases this
theorem rDigits_any (s : ByteArray) (a n : Nat) (w : World) (h : a + n ≤ s.size) (hs : s.size ≤ 1000) :
    Calls Tryz.prog 88 #[.string s, .int .i64 a, .int .i64 n] w fun e w' => e = .returned (numT (numL (cutD s.data.toList a (a + n)))) ∧ w = w' := by
  go_enter Tryz.func88, Tryz.ntmps88
  go_wp2
  go_loop [8] (fun i => ∃ k : Nat, a ≤ k ∧ k ≤ a + n ∧ i = .int .i64 k) (fun i => a + n - (intOf i).toNat)
  case atStart => exact ⟨a, by omega, by omega, rfl⟩
  case round =>
    obtain ⟨k, k1, k2, rfl⟩ := hrel
    by_cases hlt : k < a + n
    · have hi : (k : Int) < (a : Int) + (n : Int) := by omega
      have hk : k < s.size := by omega
      have hb := byte_bd s k hk
      rcases hp : digitI (s[k].toNat) with _ | _
      · have HP := box hp
        have HN := box (num_bad k1 hlt h hk hp)
        clear hp
        go_wp2_with (go_at_call 110; refine (rDigit_any _ _ hb.1 hb.2).mono ?_; rintro e w' ⟨rfl, rfl⟩; rw [HP.out])
        go_ret2
        exact ⟨by rw [HN.out]; rfl, rfl⟩
      · have HP := box hp
        clear hp
        go_wp2_with (go_at_call 110; refine (rDigit_any _ _ hb.1 hb.2).mono ?_; rintro e w' ⟨rfl, rfl⟩; rw [HP.out])
        go_round
        case rel => exact ⟨k + 1, by omega, by omega, by go_num⟩
        case measure => simp [intOf]; omega
    · have hi : ¬ (k : Int) < (a : Int) + (n : Int) := by omega
      obtain rfl : k = a + n := by omega
      have hx : (s.extract a (a + n)).size ≤ maxLen := by unfold maxLen; rw [ByteArray.size_extract]; omega
      have HX := box hx
      have HV : Box (numT (numL (s.extract a (a + n)).data.toList) = numT (numL (cutD s.data.toList a (a + n)))) := box (by rw [ext_cut, bs_toList])
      obtain ⟨p, q, hpq⟩ : ∃ p q, numT (numL (cutD s.data.toList a (a + n))) = .tuple #[.int .i64 p, .bool q] := ⟨_, _, rfl⟩
      have HQ := box hpq
      clear hx hpq
      go_wp2_with fail
      refine (rNumber_any _ _ HX.out).mono ?_; rintro e w1 ⟨rfl, rfl⟩; rw [HV.out, HQ.out]
      go_wp2
      go_ret2
      exact ⟨by rw [HQ.out]; rfl, rfl⟩
end
section
open Go.RowKit
theorem rDays20_is {y m d v : Int} {w : World} (h : Box (daysV y m d = v)) :
    Calls Tryz.prog 89 #[.int .i64 y, .int .i64 m, .int .i64 d] w fun e w' => e = .returned (.int .i64 v) ∧ w = w' :=
  (rDays_any y m d w).mono fun e w' ⟨h1, h2⟩ => ⟨by rw [h1, h.out], h2⟩
/-- a name out of the joined names -/
theorem wk_ext {k : Nat} (h : k < 7) : (⟨#[84, 104, 117, 70, 114, 105, 83, 97, 116, 83, 117, 110, 77, 111, 110, 84, 117, 101, 87, 101, 100]⟩ : ByteArray).extract (3 * k) (3 * k + 3) = bs (wkL k) := by
  rw [ext_bs]
  have key : ∀ k : Fin 7, ((([84, 104, 117, 70, 114, 105, 83, 97, 116, 83, 117, 110, 77, 111, 110, 84, 117, 101, 87, 101, 100] : List UInt8).take (3 * k.1 + 3)).drop (3 * k.1)) = wkL k.1 := by decide
  exact congrArg bs (key ⟨k, h⟩)
theorem mon_ext {k : Nat} (h : k < 12) : (⟨#[74, 97, 110, 70, 101, 98, 77, 97, 114, 65, 112, 114, 77, 97, 121, 74, 117, 110, 74, 117, 108, 65, 117, 103, 83, 101, 112, 79, 99, 116, 78, 111, 118, 68, 101, 99]⟩ : ByteArray).extract (3 * k) (3 * k + 3) = bs (monL (k + 1)) := by
  rw [ext_bs]
  have key : ∀ k : Fin 12, ((([74, 97, 110, 70, 101, 98, 77, 97, 114, 65, 112, 114, 77, 97, 121, 74, 117, 110, 74, 117, 108, 65, 117, 103, 83, 101, 112, 79, 99, 116, 78, 111, 118, 68, 101, 99] : List UInt8).take (3 * k.1 + 3)).drop (3 * k.1)) = monL (k.1 + 1) := by decide
  exact congrArg bs (key ⟨k, h⟩)
theorem run_three {s x : ByteArray} {A : Nat} (h : A + 3 ≤ s.size) (hx : s.extract A (A + 3) = x) (w : World) : (Instr.slice 9 (.string s) (some (.int .i64 (A : Int))) (some (.int .i64 ((A : Int) + 3))) none).run Tryz.prog w = .ok (.string x) w := by
  have h0 : (0 : Int) ≤ (A : Int) := by omega
  have h1 : (A : Int) ≤ (A : Int) + 3 := by omega
  have h2 : (A : Int) + 3 ≤ (s.size : Int) := by omega
  subst hx
  have h3 : (0 : Int) ≤ (A : Int) + 3 := by omega
  have h4 : ((A : Int) + 3).toNat = A + 3 := by omega
  have h5 : A ≤ A + 3 := by omega
  simp [Instr.slice, Instr.sliceBounds, Instr.sliceBound, run_underlying Tryz.underlying9, asIntOf, Result.andThen, h0, h1, h2, h3, h4, h5]
end
section
open Go.RowKit
theorem getD_eq {s : ByteArray} {k : Nat} (h : k < s.size) : s.data.toList.getD k 0 = s[k] := by
  rw [List.getD_eq_getElem?_getD, List.getElem?_eq_getElem (by simpa using h)]; rfl
theorem byte20 {s : ByteArray} {k : Nat} {c : UInt8} (h : k < s.size) : ((s[k].toNat : Int) != (c.toNat : Int)) = !decide (s.data.toList.getD k 0 = c) := by
  rw [getD_eq h]
  by_cases e : s[k] = c
  · rw [decide_eq_true e, e]; simp
  · rw [decide_eq_false e]
    have : ¬ ((s[k].toNat : Int) = (c.toNat : Int)) := fun q => e (UInt8.toNat_inj.mp (by omega))
    simpa [bne_iff_ne] using this
theorem cut20 {s : ByteArray} {a b : Nat} {l : List UInt8} : ((s.extract a b).toList == l) = decide (cutD s.data.toList a b = l) := by
  rw [ext_cut, toList_bs]
  by_cases e : cutD s.data.toList a b = l
  · rw [decide_eq_true e, beq_iff_eq]; exact e
  · rw [decide_eq_false e, beq_eq_false_iff_ne]; exact e
theorem drop20 {l : List UInt8} {n : Nat} (h : l.length = n) (k : Nat) : cutD l k n = l.drop k := by
  unfold cutD; rw [List.take_of_length_le (by omega)]
theorem digs_is {s : ByteArray} {a n b : Nat} {v : Int} {q : Bool} {w : World} (hb : a + n = b) (h : a + n ≤ s.size) (hs : s.size ≤ 1000) (hv : Box (numT (numL (cutD s.data.toList a b)) = .tuple #[.int .i64 v, .bool q])) :
    Calls Tryz.prog 88 #[.string s, .int .i64 a, .int .i64 n] w fun e w' => e = .returned (.tuple #[.int .i64 v, .bool q]) ∧ w = w' :=
  (rDigits_any s a n w h hs).mono fun e w' ⟨h1, h2⟩ => ⟨by rw [h1, hb, hv.out], h2⟩
set_option maxHeartbeats 2000000 in
theorem rParse_ok (s : ByteArray) (w : World) (hs : s.size = 29) (gc3 : cutD s.data.toList 3 5 = [44, 32]) (gc7 : s.data.toList.getD 7 0 = 32) (gc11 : s.data.toList.getD 11 0 = 32) (gc16 : s.data.toList.getD 16 0 = 32) (gc19 : s.data.toList.getD 19 0 = 58) (gc22 : s.data.toList.getD 22 0 = 58) (gc25 : s.data.toList.drop 25 = [32, 71, 77, 84]) :
    Calls Tryz.prog 58 #[.string s] w fun e w' => e = .returned (numT (prsD s.data.toList)) ∧ Below w.heap.size w w' := by
  have ec3 : ((s.extract 3 5).toList == [44, 32]) = true := by rw [cut20]; exact decide_eq_true gc3
  have ec7 : ((s[7].toNat : Int) != 32) = false := by rw [show ((s[7].toNat : Int) != 32) = _ from byte20 (s := s) (k := 7) (c := 32) (by omega), decide_eq_true gc7]; rfl
  have ec11 : ((s[11].toNat : Int) != 32) = false := by rw [show ((s[11].toNat : Int) != 32) = _ from byte20 (s := s) (k := 11) (c := 32) (by omega), decide_eq_true gc11]; rfl
  have ec16 : ((s[16].toNat : Int) != 32) = false := by rw [show ((s[16].toNat : Int) != 32) = _ from byte20 (s := s) (k := 16) (c := 32) (by omega), decide_eq_true gc16]; rfl
  have ec19 : ((s[19].toNat : Int) != 58) = false := by rw [show ((s[19].toNat : Int) != 58) = _ from byte20 (s := s) (k := 19) (c := 58) (by omega), decide_eq_true gc19]; rfl
  have ec22 : ((s[22].toNat : Int) != 58) = false := by rw [show ((s[22].toNat : Int) != 58) = _ from byte20 (s := s) (k := 22) (c := 58) (by omega), decide_eq_true gc22]; rfl
  have ec25 : ((s.extract 25 29).toList == [32, 71, 77, 84]) = true := by rw [cut20, drop20 (n := 29) (by simpa using hs)]; exact decide_eq_true gc25
  obtain ⟨D, hD⟩ : ∃ v, nmD s.data.toList 5 7 = v := ⟨_, rfl⟩
  obtain ⟨q1, hq1⟩ : ∃ v, (numV (numL (cutD s.data.toList 5 7))).2 = v := ⟨_, rfl⟩
  have ND : Box (numT (numL (cutD s.data.toList 5 7)) = .tuple #[.int .i64 D, .bool q1]) := box (by unfold numT; rw [hq1]; unfold nmD at hD; rw [hD])
  have OD : Box ((∃ v, numL (cutD s.data.toList 5 7) = some v) ↔ q1 = true) := box (by rw [← hq1]; cases numL (cutD s.data.toList 5 7) <;> simp [numV])
  obtain ⟨Y, hY⟩ : ∃ v, nmD s.data.toList 12 16 = v := ⟨_, rfl⟩
  obtain ⟨q2, hq2⟩ : ∃ v, (numV (numL (cutD s.data.toList 12 16))).2 = v := ⟨_, rfl⟩
  have NY : Box (numT (numL (cutD s.data.toList 12 16)) = .tuple #[.int .i64 Y, .bool q2]) := box (by unfold numT; rw [hq2]; unfold nmD at hY; rw [hY])
  have OY : Box ((∃ v, numL (cutD s.data.toList 12 16) = some v) ↔ q2 = true) := box (by rw [← hq2]; cases numL (cutD s.data.toList 12 16) <;> simp [numV])
  obtain ⟨H, hH⟩ : ∃ v, nmD s.data.toList 17 19 = v := ⟨_, rfl⟩
  obtain ⟨q3, hq3⟩ : ∃ v, (numV (numL (cutD s.data.toList 17 19))).2 = v := ⟨_, rfl⟩
  have NH : Box (numT (numL (cutD s.data.toList 17 19)) = .tuple #[.int .i64 H, .bool q3]) := box (by unfold numT; rw [hq3]; unfold nmD at hH; rw [hH])
  have OH : Box ((∃ v, numL (cutD s.data.toList 17 19) = some v) ↔ q3 = true) := box (by rw [← hq3]; cases numL (cutD s.data.toList 17 19) <;> simp [numV])
  obtain ⟨I, hI⟩ : ∃ v, nmD s.data.toList 20 22 = v := ⟨_, rfl⟩
  obtain ⟨q4, hq4⟩ : ∃ v, (numV (numL (cutD s.data.toList 20 22))).2 = v := ⟨_, rfl⟩
  have NI : Box (numT (numL (cutD s.data.toList 20 22)) = .tuple #[.int .i64 I, .bool q4]) := box (by unfold numT; rw [hq4]; unfold nmD at hI; rw [hI])
  have OI : Box ((∃ v, numL (cutD s.data.toList 20 22) = some v) ↔ q4 = true) := box (by rw [← hq4]; cases numL (cutD s.data.toList 20 22) <;> simp [numV])
  obtain ⟨C, hC⟩ : ∃ v, nmD s.data.toList 23 25 = v := ⟨_, rfl⟩
  obtain ⟨q5, hq5⟩ : ∃ v, (numV (numL (cutD s.data.toList 23 25))).2 = v := ⟨_, rfl⟩
  have NC : Box (numT (numL (cutD s.data.toList 23 25)) = .tuple #[.int .i64 C, .bool q5]) := box (by unfold numT; rw [hq5]; unfold nmD at hC; rw [hC])
  have OC : Box ((∃ v, numL (cutD s.data.toList 23 25) = some v) ↔ q5 = true) := box (by rw [← hq5]; cases numL (cutD s.data.toList 23 25) <;> simp [numV])
  obtain ⟨M, hM⟩ : ∃ v, monI (cutD s.data.toList 8 11) = v := ⟨_, rfl⟩
  obtain ⟨V, hV⟩ : ∃ v, daysV Y M D = v := ⟨_, rfl⟩
  have hdy : dayD s.data.toList = V := by unfold dayD; rw [hY, hM, hD]; exact hV
  have htm : timeD s.data.toList = V * 86400 + (H * 3600 + I * 60 + C) := by unfold timeD; rw [hdy, hH, hI, hC]
  have b1 := day_bd s.data.toList
  rw [hdy] at b1
  have b2 := nm_bd s.data.toList 17 19
  rw [hH] at b2
  have b3 := nm_bd s.data.toList 20 22
  rw [hI] at b3
  have b4 := nm_bd s.data.toList 23 25
  rw [hC] at b4
  have NV := box hV
  have MK : Box (∀ k, k < 12 → (monL (k + 1) = cutD s.data.toList 8 11 ↔ M = k + 1)) := box (fun k hk => by
    constructor
    · intro e; rw [← hM, ← e]; exact mon_back (by omega) (by omega)
    · intro e
      rcases mon_cases (cutD s.data.toList 8 11) with ⟨m, m1, m2, m3, m4⟩ | ⟨_, m4⟩
      · rw [m3]; congr 1; omega
      · omega)
  have M12 : M ≤ 12 := by
    rcases mon_cases (cutD s.data.toList 8 11) with ⟨m, m1, m2, m3, m4⟩ | ⟨_, m4⟩ <;> omega
  have HG : Box (q1 = true → q2 = true → q3 = true → q4 = true → q5 = true → ¬ V < 0 → ¬ 23 < H → ¬ 59 < I → ¬ 59 < C → wkL (V.toNat % 7) = s.data.toList.take 3 → prsD s.data.toList = some (V * 86400 + (H * 3600 + I * 60 + C))) := box (fun z1 z2 z3 z4 z5 z6 z7 z8 z9 z10 => by
    rw [← htm]
    exact prs_yes ⟨by simpa using hs, gc3, gc7, gc11, gc16, gc19, gc22, gc25, OD.out.2 z1, OY.out.2 z2, OH.out.2 z3, OI.out.2 z4, OC.out.2 z5, by rw [hdy]; exact z6, by rw [hH]; exact z7, by rw [hI]; exact z8, by rw [hC]; exact z9, by rw [hdy]; exact z10⟩)
  have HN : Box ((q1 = false ∨ q2 = false ∨ q3 = false ∨ q4 = false ∨ q5 = false ∨ V < 0 ∨ 23 < H ∨ 59 < I ∨ 59 < C ∨ wkL (V.toNat % 7) ≠ s.data.toList.take 3) → prsD s.data.toList = none) := box (fun z => prs_no fun g => by
    rcases z with z | z | z | z | z | z | z | z | z | z
    · have := OD.out.1 g.n5; rw [z] at this; cases this
    · have := OY.out.1 g.n12; rw [z] at this; cases this
    · have := OH.out.1 g.n17; rw [z] at this; cases this
    · have := OI.out.1 g.n20; rw [z] at this; cases this
    · have := OC.out.1 g.n23; rw [z] at this; cases this
    · exact g.day (by rw [hdy]; exact z)
    · exact g.hh (by rw [hH]; exact z)
    · exact g.mi (by rw [hI]; exact z)
    · exact g.ss (by rw [hC]; exact z)
    · exact z (by rw [← hdy]; exact g.wk))
  have hsz : s.size ≤ 1000 := by omega
  clear hD hq1 hY hq2 hH hq3 hI hq4 hC hq5 hM hV hdy htm gc3 gc7 gc11 gc16 gc19 gc22 gc25 OD OY OH OI OC
  go_enter Tryz.func58, Tryz.ntmps58
  go_wp2_with fail
  refine (digs_is (a := 5) (n := 2) (b := 7) rfl (by omega) hsz ND).mono ?_; rintro e w1 ⟨rfl, rfl⟩
  go_wp2_with fail
  refine (digs_is (a := 12) (n := 4) (b := 16) rfl (by omega) hsz NY).mono ?_; rintro e w1 ⟨rfl, rfl⟩
  go_wp2_with fail
  refine (digs_is (a := 17) (n := 2) (b := 19) rfl (by omega) hsz NH).mono ?_; rintro e w1 ⟨rfl, rfl⟩
  go_wp2_with fail
  refine (digs_is (a := 20) (n := 2) (b := 22) rfl (by omega) hsz NI).mono ?_; rintro e w1 ⟨rfl, rfl⟩
  go_wp2_with fail
  refine (digs_is (a := 23) (n := 2) (b := 25) rfl (by omega) hsz NC).mono ?_; rintro e w1 ⟨rfl, rfl⟩
  go_wp2
  go_loopw [14, 15] (fun x i wr => ∃ k q : Nat, k ≤ 12 ∧ i = .int .i64 k ∧ x = .int .i64 q ∧ Box ((M ≤ k → q = M) ∧ (k < M → q = 0)) ∧ Below w.heap.size w wr) (fun _ i _ => 12 - (intOf i).toNat)
  case atStart => exact ⟨0, 0, by omega, rfl, rfl, box ⟨fun h => by omega, fun h => rfl⟩, Below.refl _ _⟩
  case round =>
    obtain ⟨k, q, k1, rfl, rfl, HQ, hbel⟩ := hrel
    have HB := box hbel
    clear hbel
    by_cases h : k < 12
    · have hk1 : (k : Int) < 12 := by omega
      obtain ⟨A, hA⟩ : ∃ A, 3 * k = A := ⟨_, rfl⟩
      have hA1 : 3 * (k : Int) = (A : Int) := by omega
      have u1 : IntKind.i64.wrap (A : Int) = (A : Int) := IntWalk.i64_in _ (by omega)
      have u2 : IntKind.i64.wrap ((A : Int) + 3) = (A : Int) + 3 := IntWalk.i64_in _ (by omega)
      have xa : ∀ w, (Instr.slice 9 (.string ⟨#[74, 97, 110, 70, 101, 98, 77, 97, 114, 65, 112, 114, 77, 97, 121, 74, 117, 110, 74, 117, 108, 65, 117, 103, 83, 101, 112, 79, 99, 116, 78, 111, 118, 68, 101, 99]⟩) (some (.int .i64 (A : Int))) (some (.int .i64 ((A : Int) + 3))) none).run Tryz.prog w = .ok (.string (bs (monL (k + 1)))) w := run_three (by show A + 3 ≤ 36; omega) (by rw [← hA]; exact mon_ext h)
      have hmk := MK.out k h
      clear hA
      by_cases e : M = k + 1
      · have he : ((bs (monL (k + 1))).toList == (s.extract 8 11).toList) = true := by rw [toList_bs, ext_cut, toList_bs, beq_iff_eq]; exact hmk.2 e
        have HE : Box ((M ≤ k + 1 → k + 1 = M) ∧ (k + 1 < M → k + 1 = 0)) := box ⟨fun h => by omega, fun h => by omega⟩
        clear e hmk
        go_wp2_with fail
        go_quiet (fail)
        go_wp2
        go_roundw
        case rel => exact ⟨k + 1, k + 1, by omega, by go_num, by go_num, HE, HB.out.trans ((below_drewN _ _).mono HB.out.size)⟩
        case measure => simp [intOf]; omega
      · have he : ((bs (monL (k + 1))).toList == (s.extract 8 11).toList) = false := by rw [toList_bs, ext_cut, toList_bs, beq_eq_false_iff_ne]; exact fun q => e (hmk.1 q)
        have HE : Box ((M ≤ k + 1 → q = M) ∧ (k + 1 < M → q = 0)) := box ⟨fun h => HQ.out.1 (by omega), fun h => HQ.out.2 (by omega)⟩
        clear e hmk
        go_wp2_with fail
        go_quiet (fail)
        go_wp2
        go_roundw
        case rel => exact ⟨k + 1, q, by omega, by go_num, rfl, HE, HB.out.trans ((below_drewN _ _).mono HB.out.size)⟩
        case measure => simp [intOf]; omega
    · have hk1 : ¬ (k : Int) < 12 := by omega
      obtain rfl : q = M := HQ.out.1 (by omega)
      go_wp2_with fail
      refine (rDays20_is NV).mono ?_; rintro e w1 ⟨rfl, rfl⟩
      go_wp2_with fail

      rcases q1 with _ | _
      · have HV : Box (prsD s.data.toList = none) := box (HN.out (.inl rfl))
        go_quiet (fail)
        go_wp2
        go_ret2
        exact ⟨by rw [HV.out]; rfl, HB.out.trans ((below_drewN _ _).mono HB.out.size)⟩
      rcases q2 with _ | _
      · have HV : Box (prsD s.data.toList = none) := box (HN.out (.inr (.inl rfl)))
        go_quiet (fail)
        go_wp2
        go_ret2
        exact ⟨by rw [HV.out]; rfl, HB.out.trans ((below_drewN _ _).mono HB.out.size)⟩
      rcases q3 with _ | _
      · have HV : Box (prsD s.data.toList = none) := box (HN.out (.inr (.inr (.inl rfl))))
        go_quiet (fail)
        go_wp2
        go_ret2
        exact ⟨by rw [HV.out]; rfl, HB.out.trans ((below_drewN _ _).mono HB.out.size)⟩
      rcases q4 with _ | _
      · have HV : Box (prsD s.data.toList = none) := box (HN.out (.inr (.inr (.inr (.inl rfl)))))
        go_quiet (fail)
        go_wp2
        go_ret2
        exact ⟨by rw [HV.out]; rfl, HB.out.trans ((below_drewN _ _).mono HB.out.size)⟩
      rcases q5 with _ | _
      · have HV : Box (prsD s.data.toList = none) := box (HN.out (.inr (.inr (.inr (.inr (.inl rfl))))))
        go_quiet (fail)
        go_wp2
        go_ret2
        exact ⟨by rw [HV.out]; rfl, HB.out.trans ((below_drewN _ _).mono HB.out.size)⟩
      by_cases z6 : V < 0
      · have y6 : decide (V < 0) = true := decide_eq_true z6
        have HV : Box (prsD s.data.toList = none) := box (HN.out (.inr (.inr (.inr (.inr (.inr (.inl z6)))))))
        go_quiet (fail)
        go_wp2
        go_ret2
        exact ⟨by rw [HV.out]; rfl, HB.out.trans ((below_drewN _ _).mono HB.out.size)⟩
      have y6 : decide (V < 0) = false := decide_eq_false z6
      by_cases z7 : 23 < H
      · have y7 : decide (23 < H) = true := decide_eq_true z7
        have HV : Box (prsD s.data.toList = none) := box (HN.out (.inr (.inr (.inr (.inr (.inr (.inr (.inl z7))))))))
        go_quiet (fail)
        go_wp2
        go_ret2
        exact ⟨by rw [HV.out]; rfl, HB.out.trans ((below_drewN _ _).mono HB.out.size)⟩
      have y7 : decide (23 < H) = false := decide_eq_false z7
      by_cases z8 : 59 < I
      · have y8 : decide (59 < I) = true := decide_eq_true z8
        have HV : Box (prsD s.data.toList = none) := box (HN.out (.inr (.inr (.inr (.inr (.inr (.inr (.inr (.inl z8)))))))))
        go_quiet (fail)
        go_wp2
        go_ret2
        exact ⟨by rw [HV.out]; rfl, HB.out.trans ((below_drewN _ _).mono HB.out.size)⟩
      have y8 : decide (59 < I) = false := decide_eq_false z8
      by_cases z9 : 59 < C
      · have y9 : decide (59 < C) = true := decide_eq_true z9
        have HV : Box (prsD s.data.toList = none) := box (HN.out (.inr (.inr (.inr (.inr (.inr (.inr (.inr (.inr (.inl z9))))))))))
        go_quiet (fail)
        go_wp2
        go_ret2
        exact ⟨by rw [HV.out]; rfl, HB.out.trans ((below_drewN _ _).mono HB.out.size)⟩
      have y9 : decide (59 < C) = false := decide_eq_false z9
      obtain ⟨n, hn⟩ : ∃ n : Nat, V = n := ⟨V.toNat, by omega⟩
      obtain ⟨A, hA⟩ : ∃ A, 3 * (n % 7) = A := ⟨_, rfl⟩
      have t1 : V.tmod 7 = ((n % 7 : Nat) : Int) := by rw [Int.tmod_eq_emod_of_nonneg (by omega)]; omega
      obtain ⟨a, ha⟩ : ∃ a, n % 7 = a := ⟨_, rfl⟩
      rw [ha] at t1 hA
      have hA1 : 3 * (a : Int) = (A : Int) := by omega
      have u0 : IntKind.i64.wrap (a : Int) = (a : Int) := IntWalk.i64_in _ (by omega)
      have u1 : IntKind.i64.wrap (A : Int) = (A : Int) := IntWalk.i64_in _ (by omega)
      have u2 : IntKind.i64.wrap ((A : Int) + 3) = (A : Int) + 3 := IntWalk.i64_in _ (by omega)
      have xa : ∀ w, (Instr.slice 9 (.string ⟨#[84, 104, 117, 70, 114, 105, 83, 97, 116, 83, 117, 110, 77, 111, 110, 84, 117, 101, 87, 101, 100]⟩) (some (.int .i64 (A : Int))) (some (.int .i64 ((A : Int) + 3))) none).run Tryz.prog w = .ok (.string (bs (wkL a))) w := run_three (by show A + 3 ≤ 21; omega) (by rw [← hA]; exact wk_ext (by omega))
      have hw : wkL (V.toNat % 7) = wkL a := by rw [hn]; show wkL (n % 7) = _; rw [ha]
      have hx3 : (s.extract 0 3).toList = s.data.toList.take 3 := by rw [ext_cut, toList_bs]; rfl
      have g1 : ¬ V < 0 := z6
      have HZ := box (And.intro z6 (And.intro z7 (And.intro z8 z9)))
      clear hA hn ha
      by_cases z10 : wkL a = s.data.toList.take 3
      · have y10 : ((bs (wkL a)).toList == (s.extract 0 3).toList) = true := by rw [toList_bs, hx3, beq_iff_eq]; exact z10
        have HV := box (HG.out rfl rfl rfl rfl rfl (by omega) (by omega) (by omega) (by omega) (hw.trans z10))
        clear hw hx3 z10
        go_quiet (fail)
        go_wp2
        go_ret2
        exact ⟨by rw [HV.out]; rfl, HB.out.trans ((below_drewN _ _).mono HB.out.size)⟩
      · have y10 : ((bs (wkL a)).toList == (s.extract 0 3).toList) = false := by rw [toList_bs, hx3, beq_eq_false_iff_ne]; exact z10
        have HV : Box (prsD s.data.toList = none) := box (HN.out (.inr (.inr (.inr (.inr (.inr (.inr (.inr (.inr (.inr ((fun q => z10 (hw.symm.trans q)))))))))))))
        clear hw hx3 z10
        go_quiet (fail)
        go_wp2
        go_ret2
        exact ⟨by rw [HV.out]; rfl, HB.out.trans ((below_drewN _ _).mono HB.out.size)⟩
theorem rParse20_any (s : ByteArray) (w : World) :
    Calls Tryz.prog 58 #[.string s] w fun e w' => e = .returned (numT (prsD s.data.toList)) ∧ Below w.heap.size w w' := by
  by_cases hs : s.size = 29
  case neg =>
    have HV : Box (prsD s.data.toList = none) := box (prs_no fun g => hs (by have := g.len; simpa using this))
    have hi : ((s.size : Int) != 29) = true := by rw [bne_iff_ne]; omega
    clear hs
    go_enter Tryz.func58, Tryz.ntmps58
    go_wp2
    go_ret2
    exact ⟨by rw [HV.out]; rfl, Below.refl _ _⟩
  by_cases gc3 : cutD s.data.toList 3 5 = [44, 32]
  case neg =>
    have ec3 : ((s.extract 3 5).toList == [44, 32]) = false := by rw [cut20]; exact decide_eq_false gc3
    have HV : Box (prsD s.data.toList = none) := box (prs_no fun g => gc3 g.c3)
    clear gc3
    go_enter Tryz.func58, Tryz.ntmps58
    go_wp2
    go_ret2
    exact ⟨by rw [HV.out]; rfl, Below.refl _ _⟩
  by_cases gc7 : s.data.toList.getD 7 0 = 32
  case neg =>
    have ec3 : ((s.extract 3 5).toList == [44, 32]) = true := by rw [cut20]; exact decide_eq_true gc3
    have ec7 : ((s[7].toNat : Int) != 32) = true := by rw [show ((s[7].toNat : Int) != 32) = _ from byte20 (s := s) (k := 7) (c := 32) (by omega), decide_eq_false gc7]; rfl
    have HV : Box (prsD s.data.toList = none) := box (prs_no fun g => gc7 g.c7)
    clear gc3 gc7
    go_enter Tryz.func58, Tryz.ntmps58
    go_wp2
    go_ret2
    exact ⟨by rw [HV.out]; rfl, Below.refl _ _⟩
  by_cases gc11 : s.data.toList.getD 11 0 = 32
  case neg =>
    have ec3 : ((s.extract 3 5).toList == [44, 32]) = true := by rw [cut20]; exact decide_eq_true gc3
    have ec7 : ((s[7].toNat : Int) != 32) = false := by rw [show ((s[7].toNat : Int) != 32) = _ from byte20 (s := s) (k := 7) (c := 32) (by omega), decide_eq_true gc7]; rfl
    have ec11 : ((s[11].toNat : Int) != 32) = true := by rw [show ((s[11].toNat : Int) != 32) = _ from byte20 (s := s) (k := 11) (c := 32) (by omega), decide_eq_false gc11]; rfl
    have HV : Box (prsD s.data.toList = none) := box (prs_no fun g => gc11 g.c11)
    clear gc3 gc7 gc11
    go_enter Tryz.func58, Tryz.ntmps58
    go_wp2
    go_ret2
    exact ⟨by rw [HV.out]; rfl, Below.refl _ _⟩
  by_cases gc16 : s.data.toList.getD 16 0 = 32
  case neg =>
    have ec3 : ((s.extract 3 5).toList == [44, 32]) = true := by rw [cut20]; exact decide_eq_true gc3
    have ec7 : ((s[7].toNat : Int) != 32) = false := by rw [show ((s[7].toNat : Int) != 32) = _ from byte20 (s := s) (k := 7) (c := 32) (by omega), decide_eq_true gc7]; rfl
    have ec11 : ((s[11].toNat : Int) != 32) = false := by rw [show ((s[11].toNat : Int) != 32) = _ from byte20 (s := s) (k := 11) (c := 32) (by omega), decide_eq_true gc11]; rfl
    have ec16 : ((s[16].toNat : Int) != 32) = true := by rw [show ((s[16].toNat : Int) != 32) = _ from byte20 (s := s) (k := 16) (c := 32) (by omega), decide_eq_false gc16]; rfl
    have HV : Box (prsD s.data.toList = none) := box (prs_no fun g => gc16 g.c16)
    clear gc3 gc7 gc11 gc16
    go_enter Tryz.func58, Tryz.ntmps58
    go_wp2
    go_ret2
    exact ⟨by rw [HV.out]; rfl, Below.refl _ _⟩
  by_cases gc19 : s.data.toList.getD 19 0 = 58
  case neg =>
    have ec3 : ((s.extract 3 5).toList == [44, 32]) = true := by rw [cut20]; exact decide_eq_true gc3
    have ec7 : ((s[7].toNat : Int) != 32) = false := by rw [show ((s[7].toNat : Int) != 32) = _ from byte20 (s := s) (k := 7) (c := 32) (by omega), decide_eq_true gc7]; rfl
    have ec11 : ((s[11].toNat : Int) != 32) = false := by rw [show ((s[11].toNat : Int) != 32) = _ from byte20 (s := s) (k := 11) (c := 32) (by omega), decide_eq_true gc11]; rfl
    have ec16 : ((s[16].toNat : Int) != 32) = false := by rw [show ((s[16].toNat : Int) != 32) = _ from byte20 (s := s) (k := 16) (c := 32) (by omega), decide_eq_true gc16]; rfl
    have ec19 : ((s[19].toNat : Int) != 58) = true := by rw [show ((s[19].toNat : Int) != 58) = _ from byte20 (s := s) (k := 19) (c := 58) (by omega), decide_eq_false gc19]; rfl
    have HV : Box (prsD s.data.toList = none) := box (prs_no fun g => gc19 g.c19)
    clear gc3 gc7 gc11 gc16 gc19
    go_enter Tryz.func58, Tryz.ntmps58
    go_wp2
    go_ret2
    exact ⟨by rw [HV.out]; rfl, Below.refl _ _⟩
  by_cases gc22 : s.data.toList.getD 22 0 = 58
  case neg =>
    have ec3 : ((s.extract 3 5).toList == [44, 32]) = true := by rw [cut20]; exact decide_eq_true gc3
    have ec7 : ((s[7].toNat : Int) != 32) = false := by rw [show ((s[7].toNat : Int) != 32) = _ from byte20 (s := s) (k := 7) (c := 32) (by omega), decide_eq_true gc7]; rfl
    have ec11 : ((s[11].toNat : Int) != 32) = false := by rw [show ((s[11].toNat : Int) != 32) = _ from byte20 (s := s) (k := 11) (c := 32) (by omega), decide_eq_true gc11]; rfl
    have ec16 : ((s[16].toNat : Int) != 32) = false := by rw [show ((s[16].toNat : Int) != 32) = _ from byte20 (s := s) (k := 16) (c := 32) (by omega), decide_eq_true gc16]; rfl
    have ec19 : ((s[19].toNat : Int) != 58) = false := by rw [show ((s[19].toNat : Int) != 58) = _ from byte20 (s := s) (k := 19) (c := 58) (by omega), decide_eq_true gc19]; rfl
    have ec22 : ((s[22].toNat : Int) != 58) = true := by rw [show ((s[22].toNat : Int) != 58) = _ from byte20 (s := s) (k := 22) (c := 58) (by omega), decide_eq_false gc22]; rfl
    have HV : Box (prsD s.data.toList = none) := box (prs_no fun g => gc22 g.c22)
    clear gc3 gc7 gc11 gc16 gc19 gc22
    go_enter Tryz.func58, Tryz.ntmps58
    go_wp2
    go_ret2
    exact ⟨by rw [HV.out]; rfl, Below.refl _ _⟩
  by_cases gc25 : s.data.toList.drop 25 = [32, 71, 77, 84]
  case neg =>
    have ec3 : ((s.extract 3 5).toList == [44, 32]) = true := by rw [cut20]; exact decide_eq_true gc3
    have ec7 : ((s[7].toNat : Int) != 32) = false := by rw [show ((s[7].toNat : Int) != 32) = _ from byte20 (s := s) (k := 7) (c := 32) (by omega), decide_eq_true gc7]; rfl
    have ec11 : ((s[11].toNat : Int) != 32) = false := by rw [show ((s[11].toNat : Int) != 32) = _ from byte20 (s := s) (k := 11) (c := 32) (by omega), decide_eq_true gc11]; rfl
    have ec16 : ((s[16].toNat : Int) != 32) = false := by rw [show ((s[16].toNat : Int) != 32) = _ from byte20 (s := s) (k := 16) (c := 32) (by omega), decide_eq_true gc16]; rfl
    have ec19 : ((s[19].toNat : Int) != 58) = false := by rw [show ((s[19].toNat : Int) != 58) = _ from byte20 (s := s) (k := 19) (c := 58) (by omega), decide_eq_true gc19]; rfl
    have ec22 : ((s[22].toNat : Int) != 58) = false := by rw [show ((s[22].toNat : Int) != 58) = _ from byte20 (s := s) (k := 22) (c := 58) (by omega), decide_eq_true gc22]; rfl
    have ec25 : ((s.extract 25 29).toList == [32, 71, 77, 84]) = false := by rw [cut20, drop20 (n := 29) (by simpa using hs)]; exact decide_eq_false gc25
    have HV : Box (prsD s.data.toList = none) := box (prs_no fun g => gc25 g.c25)
    clear gc3 gc7 gc11 gc16 gc19 gc22 gc25
    go_enter Tryz.func58, Tryz.ntmps58
    go_wp2
    go_ret2
    exact ⟨by rw [HV.out]; rfl, Below.refl _ _⟩
  exact rParse_ok s w hs gc3 gc7 gc11 gc16 gc19 gc22 gc25
end
section
open Go.RowKit
theorem rFirst23_is {a : Option Addr} {cap : Nat} {L : List F} {nm x : ByteArray} {q : Bool} {w : World} (S : Box (Sm L)) (M : Box (nm.size ≤ 65536)) (hF : Box (Fs w a L)) (hx : Box (firB nm L = x)) (hq : Box (firQ nm L = q)) :
    Calls Tryz.prog 56 #[.slice a L.length cap, .string nm] w fun e w' => e = .returned (.tuple #[.string x, .bool q]) ∧ Below w.heap.size w w' :=
  (rFirst_any a cap L nm w S.out.1 S M hF).mono fun e w' ⟨h1, h2⟩ => ⟨by rw [h1, firstV_is, hx.out, hq.out], h2⟩
theorem rPrs23_is {s : ByteArray} {a : Int} {b : Bool} {w : World} (h : Box (numT (prsD s.data.toList) = .tuple #[.int .i64 a, .bool b])) :
    Calls Tryz.prog 58 #[.string s] w fun e w' => e = .returned (.tuple #[.int .i64 a, .bool b]) ∧ Below w.heap.size w w' :=
  (rParse20_any s w).mono fun e w' ⟨h1, h2⟩ => ⟨by rw [h1, h.out], h2⟩
theorem rFdt_any (a : Option Addr) (cap : Nat) (L : List F) (nm : ByteArray) (w : World) (S : Box (Sm L)) (M : Box (nm.size ≤ 65536)) (hv : Box (∀ x ∈ getL nm L, x.size ≤ 65000)) (hF : Box (Fs w a L)) :
    Calls Tryz.prog 31 #[.slice a L.length cap, .string nm] w fun e w' => e = .returned (numT (fdtD nm L)) ∧ Below w.heap.size w w' := by
  obtain ⟨x, hx⟩ : ∃ x, firB nm L = x := ⟨_, rfl⟩
  have HX := box hx
  rcases hq : firQ nm L with _ | _
  · have HQ := box hq
    have HZ : Box (numT (fdtD nm L) = .tuple #[.int .i64 0, .bool false]) := box (by rw [fdt_none hq]; rfl)
    clear hx hq
    go_enter Tryz.func31, Tryz.ntmps31
    go_wp2_with fail
    refine (rFirst23_is S M hF HX HQ).mono ?_; rintro e w1 ⟨rfl, hb1⟩
    have B1 := box hb1
    clear hb1
    go_wp2
    go_ret2
    exact ⟨by rw [HZ.out]; rfl, B1.out⟩
  · have HQ := box hq
    obtain ⟨b, c, hn⟩ : ∃ b c, numT (prsD x.data.toList) = .tuple #[.int .i64 b, .bool c] := ⟨_, _, rfl⟩
    have HN := box hn
    have HZ : Box (numT (fdtD nm L) = .tuple #[.int .i64 b, .bool c]) := box (by unfold fdtD; rw [hx, hn])
    clear hx hq hn
    go_enter Tryz.func31, Tryz.ntmps31
    go_wp2_with fail
    refine (rFirst23_is S M hF HX HQ).mono ?_; rintro e w1 ⟨rfl, hb1⟩
    have B1 := box hb1
    clear hb1
    go_wp2_with fail
    refine (rPrs23_is HN).mono ?_; rintro e w2 ⟨rfl, hb2⟩
    have B2 := box (B1.out.trans (hb2.mono B1.out.size))
    clear hb2
    go_wp2
    go_ret2
    exact ⟨by rw [HZ.out]; rfl, B2.out⟩
end
section
open Go.RowKit
theorem rResp23_is {a : Option Addr} {cap : Nat} {L : List F} {c : CT} {w : World} (S : Box (Sm L)) (hv : Box (∀ x ∈ getL ccN L, x.size ≤ 65000)) (hF : Box (Fs w a L)) (HC : Box (respC (allL ccN L) = c)) :
    Calls Tryz.prog 24 #[.slice a L.length cap] w fun e w' => e = .returned (.agg #[.bool c.ns, .bool c.nc, .bool c.mr, .bool c.pr, .bool c.pv, .bool c.pb, .bool c.oc, .int .i64 c.ma, .int .i64 c.sm, .int .i64 c.mf, .int .i64 c.ms]) ∧ Below w.heap.size w w' :=
  rResp_any a cap L w S hv hF c HC
theorem rFdt_is {a : Option Addr} {cap : Nat} {L : List F} {nm : ByteArray} {x : Int} {b : Bool} {w : World} (S : Box (Sm L)) (M : Box (nm.size ≤ 65536)) (hv : Box (∀ x ∈ getL nm L, x.size ≤ 65000)) (hF : Box (Fs w a L)) (H : Box (numT (fdtD nm L) = .tuple #[.int .i64 x, .bool b])) :
    Calls Tryz.prog 31 #[.slice a L.length cap, .string nm] w fun e w' => e = .returned (.tuple #[.int .i64 x, .bool b]) ∧ Below w.heap.size w w' :=
  (rFdt_any a cap L nm w S M hv hF).mono fun e w' ⟨h1, h2⟩ => ⟨by rw [h1, H.out], h2⟩
theorem rLife1 (a : Option Addr) (cap : Nat) (L : List F) (v : Int) (w : World) (S : Box (Sm L)) (hv : Box (∀ nm, ∀ x ∈ getL nm L, x.size ≤ 65000)) (hF : Box (Fs w a L)) (c : CT) (HC : Box (respC (allL ccN L) = c)) (hs : -1 ≤ c.sm) (h1 : 0 ≤ c.sm) (HV : Box (c.sm = v)) :
    Calls Tryz.prog 16 #[.slice a L.length cap] w fun e w' => e = .returned (.int .i64 v) ∧ Below w.heap.size w w' := by
  have i1 : (0 : Int) ≤ c.sm := h1
  clear hs h1
  go_enter Tryz.func16, Tryz.ntmps16
  go_wp2_with fail
  refine (rResp23_is S (box (hv.out ccN)) hF HC).mono ?_; rintro e w1 ⟨rfl, hb1⟩
  have B1 := box ((hb1).alloc hb1.size (.cells (ctA c) 36))
  clear hb1
  go_wp2
  go_ret
  exact ⟨ret_int HV.out, B1.out⟩
theorem rLife2 (a : Option Addr) (cap : Nat) (L : List F) (v : Int) (w : World) (S : Box (Sm L)) (hv : Box (∀ nm, ∀ x ∈ getL nm L, x.size ≤ 65000)) (hF : Box (Fs w a L)) (c : CT) (HC : Box (respC (allL ccN L) = c)) (hs : -1 ≤ c.sm) (hm : -1 ≤ c.ma) (h1 : ¬ 0 ≤ c.sm) (h2 : 0 ≤ c.ma) (HV : Box (c.ma = v)) :
    Calls Tryz.prog 16 #[.slice a L.length cap] w fun e w' => e = .returned (.int .i64 v) ∧ Below w.heap.size w w' := by
  have i1 : ¬ (0 : Int) ≤ c.sm := h1
  have i2 : (0 : Int) ≤ c.ma := h2
  clear hs hm h1 h2
  go_enter Tryz.func16, Tryz.ntmps16
  go_wp2_with fail
  refine (rResp23_is S (box (hv.out ccN)) hF HC).mono ?_; rintro e w1 ⟨rfl, hb1⟩
  have B1 := box ((hb1).alloc hb1.size (.cells (ctA c) 36))
  clear hb1
  go_wp2
  go_ret
  exact ⟨ret_int HV.out, B1.out⟩
theorem rLife3 (a : Option Addr) (cap : Nat) (L : List F) (v : Int) (w : World) (S : Box (Sm L)) (hv : Box (∀ nm, ∀ x ∈ getL nm L, x.size ≤ 65000)) (hF : Box (Fs w a L)) (c : CT) (HC : Box (respC (allL ccN L) = c)) (hs : -1 ≤ c.sm) (hm : -1 ≤ c.ma) (h1 : ¬ 0 ≤ c.sm) (h2 : ¬ 0 ≤ c.ma) {x y : Int} {bx b : Bool} (HexN : Box (numT (fdtD exN L) = .tuple #[.int .i64 x, .bool bx])) (HdaN : Box (numT (fdtD daN L) = .tuple #[.int .i64 y, .bool b])) (hb : (bx && b) = false) (HV : Box (v = 0)) :
    Calls Tryz.prog 16 #[.slice a L.length cap] w fun e w' => e = .returned (.int .i64 v) ∧ Below w.heap.size w w' := by
  have i1 : ¬ (0 : Int) ≤ c.sm := h1
  have i2 : ¬ (0 : Int) ≤ c.ma := h2
  clear hs hm h1 h2
  go_enter Tryz.func16, Tryz.ntmps16
  go_wp2_with fail
  refine (rResp23_is S (box (hv.out ccN)) hF HC).mono ?_; rintro e w1 ⟨rfl, hb1⟩
  have B1 := box ((hb1).alloc hb1.size (.cells (ctA c) 36))
  have F1 := box (hF.out.below B1.out)
  clear hb1
  go_wp2_with fail
  refine (rFdt_is S (box (by decide)) (box (hv.out exN)) F1 HexN).mono ?_; rintro e w2 ⟨rfl, hb2⟩
  have B2 := box (B1.out.trans (hb2.mono B1.out.size))
  have F2 := box (F1.out.below hb2)
  clear hb2
  go_wp2_with fail
  refine (rFdt_is S (box (by decide)) (box (hv.out daN)) F2 HdaN).mono ?_; rintro e w3 ⟨rfl, hb3⟩
  have B3 := box (B2.out.trans (hb3.mono B2.out.size))
  have F3 := box (F2.out.below hb3)
  clear hb3
  have B4 := B3
  cases bx <;> cases b
  all_goals first
    | (exact absurd hb (by decide))
    | (go_wp2
       go_ret
       exact ⟨ret_int HV.out.symm, B4.out⟩)
theorem rLife4 (a : Option Addr) (cap : Nat) (L : List F) (v : Int) (w : World) (S : Box (Sm L)) (hv : Box (∀ nm, ∀ x ∈ getL nm L, x.size ≤ 65000)) (hF : Box (Fs w a L)) (c : CT) (HC : Box (respC (allL ccN L) = c)) (hs : -1 ≤ c.sm) (hm : -1 ≤ c.ma) (h1 : ¬ 0 ≤ c.sm) (h2 : ¬ 0 ≤ c.ma) {x y : Int} (HexN : Box (numT (fdtD exN L) = .tuple #[.int .i64 x, .bool true])) (HdaN : Box (numT (fdtD daN L) = .tuple #[.int .i64 y, .bool true])) (hx : 0 ≤ x ∧ x ≤ 253402300799) (hy : 0 ≤ y ∧ y ≤ 253402300799) (HV : Box (satS (x - y) = v)) :
    Calls Tryz.prog 16 #[.slice a L.length cap] w fun e w' => e = .returned (.int .i64 v) ∧ Below w.heap.size w w' := by
  obtain ⟨hx0, hx1⟩ := hx
  obtain ⟨hy0, hy1⟩ := hy
  have i1 : ¬ (0 : Int) ≤ c.sm := h1
  have i2 : ¬ (0 : Int) ≤ c.ma := h2
  clear hs hm h1 h2
  go_enter Tryz.func16, Tryz.ntmps16
  go_wp2_with fail
  refine (rResp23_is S (box (hv.out ccN)) hF HC).mono ?_; rintro e w1 ⟨rfl, hb1⟩
  have B1 := box ((hb1).alloc hb1.size (.cells (ctA c) 36))
  have F1 := box (hF.out.below B1.out)
  clear hb1
  go_wp2_with fail
  refine (rFdt_is S (box (by decide)) (box (hv.out exN)) F1 HexN).mono ?_; rintro e w2 ⟨rfl, hb2⟩
  have B2 := box (B1.out.trans (hb2.mono B1.out.size))
  have F2 := box (F1.out.below hb2)
  clear hb2
  go_wp2_with fail
  refine (rFdt_is S (box (by decide)) (box (hv.out daN)) F2 HdaN).mono ?_; rintro e w3 ⟨rfl, hb3⟩
  have B3 := box (B2.out.trans (hb3.mono B2.out.size))
  have F3 := box (F2.out.below hb3)
  clear hb3
  go_wp2
  all_goals (go_ret; exact ⟨ret_int (by rw [← HV.out]; unfold satS; split <;> (try split) <;> omega), B3.out⟩)
theorem rLife_any (a : Option Addr) (cap : Nat) (L : List F) (v : Int) (w : World) (S : Box (Sm L)) (hv : Box (∀ nm, ∀ x ∈ getL nm L, x.size ≤ 65000)) (hF : Box (Fs w a L)) (HV : Box (lifeV (respC (allL ccN L)) (fdtD exN L) (fdtD daN L) = v)) :
    Calls Tryz.prog 16 #[.slice a L.length cap] w fun e w' => e = .returned (.int .i64 v) ∧ Below w.heap.size w w' := by
  obtain ⟨c, hc⟩ : ∃ c, respC (allL ccN L) = c := ⟨_, rfl⟩
  have hg := resp_ge (allL ccN L)
  rw [hc] at hg HV
  unfold lifeV at HV
  by_cases h1 : 0 ≤ c.sm
  · rw [if_pos h1] at HV
    exact rLife1 a cap L v w S hv hF c (box hc) hg.1 h1 HV
  · rw [if_neg h1] at HV
    by_cases h2 : 0 ≤ c.ma
    · rw [if_pos h2] at HV
      exact rLife2 a cap L v w S hv hF c (box hc) hg.1 hg.2 h1 h2 HV
    · rw [if_neg h2] at HV
      rcases hx : fdtD exN L with _ | x
      · rw [hx] at HV
        exact rLife3 a cap L v w S hv hF c (box hc) hg.1 hg.2 h1 h2 (box (by rw [hx]; rfl)) (box rfl) rfl (box HV.out.symm)
      · rcases hy : fdtD daN L with _ | y
        · rw [hx, hy] at HV
          exact rLife3 a cap L v w S hv hF c (box hc) hg.1 hg.2 h1 h2 (box (by rw [hx]; rfl)) (box (by rw [hy]; rfl)) rfl (box HV.out.symm)
        · rw [hx, hy] at HV
          exact rLife4 a cap L v w S hv hF c (box hc) hg.1 hg.2 h1 h2 (box (by rw [hx]; rfl)) (box (by rw [hy]; rfl)) (fdt_bd hx) (fdt_bd hy) HV
end
end Go.Proofs.YtiogngfemelifaaGreatDoor.Asc
