/- Merged texts: RnkBin. -/
import Derived.Test.YtgmfmlcpogbolaaM07
set_option linter.unusedVariables false
set_option linter.unusedSimpArgs false
set_option maxRecDepth 100000
namespace Go.Proofs.Ytgmfmlcpogbolaa.Asc
section
open Go.RowKit
def cmpC (a b : Int) : Int := if a < b then -1 else if b < a then 1 else 0
theorem cmpC_lt {a b : Int} (h : a < b) : cmpC a b = -1 := by unfold cmpC; rw [if_pos h]
theorem cmpC_gt {a b : Int} (h : b < a) : cmpC a b = 1 := by unfold cmpC; rw [if_neg (by omega), if_pos h]
theorem cmpC_eq (a : Int) : cmpC a a = 0 := by unfold cmpC; rw [if_neg (by omega), if_neg (by omega)]
theorem isNaN14 (k : Int) (w : World) : Calls Try.prog 70 #[.int .i64 k] w fun e w' => e = .returned (.bool false) ∧ w' = w := by
  have e1 : (k != k) = false := by simp
  go_enter Try.func70, Try.ntmps70
  go_wp2
  go_ret
  exact ⟨rfl, rfl⟩
theorem compare14 (a b : Int) (w : World) : Calls Try.prog 51 #[.int .i64 a, .int .i64 b] w fun e w' => e = .returned (.int .i64 (cmpC a b)) ∧ w' = w := by
  by_cases h1 : a < b
  · have HV := box (cmpC_lt h1)
    go_enter Try.func51, Try.ntmps51
    go_wp2_with fail
    refine (isNaN14 _ _).mono ?_; rintro e w1 ⟨rfl, rfl⟩
    go_wp2_with fail
    refine (isNaN14 _ _).mono ?_; rintro e w1 ⟨rfl, rfl⟩
    go_wp2
    go_ret
    exact ⟨by rw [HV.out]; rfl, rfl⟩
  · by_cases h2 : b < a
    · have HV := box (cmpC_gt h2)
      go_enter Try.func51, Try.ntmps51
      go_wp2_with fail
      refine (isNaN14 _ _).mono ?_; rintro e w1 ⟨rfl, rfl⟩
      go_wp2_with fail
      refine (isNaN14 _ _).mono ?_; rintro e w1 ⟨rfl, rfl⟩
      go_wp2
      go_ret
      exact ⟨by rw [HV.out]; rfl, rfl⟩
    · have e : a = b := by omega
      subst e
      have HV := box (cmpC_eq a)
      go_enter Try.func51, Try.ntmps51
      go_wp2_with fail
      refine (isNaN14 _ _).mono ?_; rintro e w1 ⟨rfl, rfl⟩
      go_wp2_with fail
      refine (isNaN14 _ _).mono ?_; rintro e w1 ⟨rfl, rfl⟩
      go_wp2
      go_ret
      exact ⟨by rw [HV.out]; rfl, rfl⟩
theorem mCmp14 (k q i : Int) (a : Option Addr) (n c : Nat) (w : World) (h : Box (cmpC q k = i)) :
    Calls Try.prog 32 #[.agg #[.int .i64 k, .slice a n c], .int .i64 q] w fun e w' => e = .returned (.int .i64 i) ∧ Below w.heap.size w w' := by
  go_enter Try.func32, Try.ntmps32
  go_wp2_with fail
  refine (compare14 _ _ _).mono ?_; rintro e w1 ⟨rfl, rfl⟩
  rw [h.out]
  go_wp2
  go_ret
  exact ⟨rfl, below_new _ _⟩
def SrchRel (q : Int) (T : List TL) (W : World) (i j : Value) (wr : World) : Prop :=
  ∃ x y : Nat, i = .int .i64 x ∧ j = .int .i64 y ∧ x ≤ y ∧ y ≤ T.length ∧ Box (∀ k (hk : k < T.length), k < x → q < T[k].1) ∧ Box (∀ k (hk : k < T.length), y ≤ k → T[k].1 ≤ q) ∧ Below W.heap.size W wr
/-- all slices are written out -/
def Slices (T : List TL) : Prop := ∀ i (h : i < T.length), ∃ a n c, T[i].2.1 = .slice a n c
def SrchPost (q : Int) (T : List TL) (w : World) (e : Ending) (w' : World) : Prop :=
  ∃ (k : Nat) (f : Bool), e = .returned (.tuple #[.int .i64 k, .bool f]) ∧ k ≤ T.length ∧ (∀ i (hi : i < T.length), i < k → q < T[i].1) ∧ (∀ i (hi : i < T.length), k ≤ i → T[i].1 ≤ q) ∧ (f = true ↔ ∃ h : k < T.length, T[k].1 = q) ∧ Below w.heap.size w w'
set_option maxHeartbeats 1000000 in
theorem mSearch14 (a : Option Addr) (cap : Nat) (T : List TL) (q : Int) (w : World) (hl : T.length ≤ 65536) (hD : Box (DescV (plT T))) (hS : Box (Slices T)) (hT : Box (Ts w a T)) :
    Calls Try.prog 31 #[.slice a T.length cap, .int .i64 q, .func (.func 32) #[] #[]] w fun e w' =>
      SrchPost q T w e w' := by
  go_enter Try.func31, Try.ntmps31
  go_wp2
  go_loopw [9, 10] (fun i j wr => SrchRel q T w i j wr) (fun i j _ => (intOf j).toNat - (intOf i).toNat)
  case atStart => exact ⟨0, T.length, rfl, rfl, Nat.zero_le _, Nat.le_refl _, box (fun k hk h => absurd h (by omega)), box (fun k hk h => absurd hk (by omega)), Below.refl _ _⟩
  case round =>
    obtain ⟨x, y, rfl, rfl, hxy, hyl, HA, HB, hbel⟩ := hrel
    have BL := box hbel
    have T1 := box (hT.out.below hbel)
    clear hbel
    by_cases hlt : x < y
    · have hji : (x : Int) < (y : Int) := by omega
      obtain ⟨h, hh⟩ : ∃ h, (x + y) / 2 = h := ⟨_, rfl⟩
      have hh1 : h < T.length := by omega
      obtain ⟨p, hp⟩ : ∃ p, T[h] = p := ⟨_, rfl⟩
      obtain ⟨g, off, rfl, c0, c1⟩ := T1.out h hh1
      obtain ⟨sa, sn, sc, hs⟩ := hS.out h hh1
      rw [hp] at c0 c1 hs
      rw [hs] at c1
      by_cases hq : q < p.1
      · have HC := box (cmpC_lt hq)
        go_wp2_with fail
        refine (mCmp14 _ _ _ _ _ _ _ HC).mono ?_; rintro e w2 ⟨rfl, hb2⟩
        have B2 := box (BL.out.trans (hb2.mono BL.out.size))
        clear hb2 c0 c1
        go_wp2
        go_roundw
        case rel =>
          refine ⟨h + 1, y, by go_num, rfl, by omega, hyl, box (fun k hk hkh => ?_), HB, B2.out⟩
          by_cases e : k = h
          · subst e; rw [hp]; exact hq
          · have := descV_at (l := plT T) hD.out k h (by simpa [plT] using hk) (by simpa [plT] using hh1) (by omega)
            simp only [plT, List.getElem_map, hp] at this
            omega
        case measure => simp [intOf]; omega
      · have HC : Box (cmpC q p.1 = 0) ∨ Box (cmpC q p.1 = 1) := by
          rcases Int.lt_or_eq_of_le (show p.1 ≤ q by omega) with h2 | h2
          · exact .inr (box (cmpC_gt h2))
          · exact .inl (box (by rw [h2]; exact cmpC_eq q))
        rcases HC with HC | HC
        all_goals
          go_wp2_with fail
          refine (mCmp14 _ _ _ _ _ _ _ HC).mono ?_; rintro e w2 ⟨rfl, hb2⟩
          have B2 := box (BL.out.trans (hb2.mono BL.out.size))
          clear hb2 c0 c1
          go_wp2
          go_roundw
          case rel =>
            refine ⟨x, h, rfl, by go_num, by omega, by omega, HA, box (fun k hk hkh => ?_), B2.out⟩
            by_cases e : k = h
            · subst e; rw [hp]; omega
            · have := descV_at (l := plT T) hD.out h k (by simpa [plT] using hh1) (by simpa [plT] using hk) (by omega)
              simp only [plT, List.getElem_map, hp] at this
              omega
          case measure => simp [intOf]; omega
    · have hji : ¬ (x : Int) < (y : Int) := by omega
      obtain rfl : x = y := by omega
      by_cases hn : x < T.length
      · have hni : (x : Int) < (T.length : Int) := by omega
        obtain ⟨p, hp⟩ : ∃ p, T[x] = p := ⟨_, rfl⟩
        obtain ⟨g, off, rfl, c0, c1⟩ := T1.out x hn
        obtain ⟨sa, sn, sc, hs⟩ := hS.out x hn
        rw [hp] at c0 c1 hs
        rw [hs] at c1
        by_cases hq : p.1 = q
        · subst hq
          have HC := box (cmpC_eq p.1)
          go_wp2_with fail
          refine (mCmp14 _ _ _ _ _ _ _ HC).mono ?_; rintro e w2 ⟨rfl, hb2⟩
          have B2 := box (BL.out.trans (hb2.mono BL.out.size))
          clear hb2 c0 c1
          go_wp2
          go_ret2
          exact ⟨x, true, rfl, hyl, HA.out, HB.out, ⟨fun _ => ⟨hn, by rw [hp]⟩, fun _ => rfl⟩, B2.out⟩
        · have HC : Box (cmpC q p.1 = 1) := box (cmpC_gt (by have := HB.out x hn (Nat.le_refl _); rw [hp] at this; omega))
          have HQ := box hq
          clear hq
          go_wp2_with fail
          refine (mCmp14 _ _ _ _ _ _ _ HC).mono ?_; rintro e w2 ⟨rfl, hb2⟩
          have B2 := box (BL.out.trans (hb2.mono BL.out.size))
          clear hb2 c0 c1
          go_wp2
          go_ret2
          exact ⟨x, false, rfl, hyl, HA.out, HB.out, ⟨fun h => (by cases h), fun ⟨h1, h2⟩ => absurd (by rw [← hp]; exact h2) HQ.out⟩, B2.out⟩
      · have hni : ¬ (x : Int) < (T.length : Int) := by omega
        go_wp2
        go_ret2
        exact ⟨x, false, rfl, hyl, HA.out, HB.out, ⟨fun h => (by cases h), fun ⟨h1, h2⟩ => absurd h1 hn⟩, BL.out⟩
end
end Go.Proofs.Ytgmfmlcpogbolaa.Asc
