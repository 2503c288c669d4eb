/- Merged texts: VarRef2 VarRef3 VarRef4 VarRef6 VarMem2 VarRef7 AccSpec4. -/
import Derived.Test.YtcnohcbhnldglaaGreatM01
import Derived.Test.YtcnohcbhnldglaaGreatM03
import Derived.Test.YtcnohcbhnldglaaGreatM06
import Derived.Test.YtcnohcbhnldglaaGreatM07
import Derived.Test.YtcnohcbhnldglaaGreatM08
import Derived.Test.YtcnohcbhnldglaaGreatM09
import Derived.Test.YtcnohcbhnldglaaGreatM10
import Derived.Test.YtcnohcbhnldglaaGreatM11
import Derived.BigQuiet
import Derived.Deep.AppendLies
import Derived.Deep.QuietTactic
import Derived.Deep.RegionHeld3
import Derived.Lib.Hide
import Derived.LoopTactic
set_option linter.unusedVariables false
set_option linter.unusedSimpArgs false
set_option maxRecDepth 100000
namespace Go.Proofs.YtcnohcbhnldglaaGreat.Asc
section
open Go.RowKit
theorem ne_toList (a b : ByteArray) : (!(a.toList == b.toList)) = decide (a ≠ b) := by
  rw [toList_data, toList_data]
  by_cases e : a = b
  · rw [e]; simp
  · rw [decide_eq_true e]
    have : (a.data.toList == b.data.toList) = false := beq_eq_false_iff_ne.2 (fun h => e (by rw [bs_of a, bs_of b, h]))
    rw [this]; rfl
theorem rMedia15_is {x a b : ByteArray} {L : List F} {q : Bool} {w : World} (hx : x.size ≤ 65000) (h : Box (ofM (mediaL x.data.toList) = (a, b, L) ∧ (mediaL x.data.toList).isSome = q)) :
    Calls Tryz.prog 87 #[.string x] w fun e w' => ∃ p c, e = .returned (.tuple #[.agg #[.string a, .string b, .slice p L.length c], .bool q]) ∧ Fs w' p L ∧ Below w.heap.size w w' := by
  refine (rMedia_any x w hx).mono ?_
  rintro e w' ⟨v, rfl, hO, hb⟩
  obtain ⟨h1, h2⟩ := h.out
  rw [h1] at hO ⊢
  obtain ⟨p, c, rfl, hF, _⟩ := hO.fs
  exact ⟨p, c, by rw [h2], hF, hb⟩
theorem rText15_is {s : ByteArray} {b : Bool} {w : World} (hs : s.size ≤ maxLen) (h : Box (textL s.data.toList = b)) :
    Calls Tryz.prog 89 #[.string s] w fun e w' => e = .returned (.bool b) ∧ w = w' :=
  (rText_any s w hs).mono fun e w' ⟨h1, h2⟩ => ⟨by rw [h1, h.out], h2⟩
def VoRel (L : List F) (q : Bool) (g : Nat) (c0 c1 c2 : Value) (p : Option Addr) (W : World) (ok i : Value) (wr : World) : Prop :=
  ∃ j : Nat, i = .int .i64 j ∧ j ≤ L.length ∧ ok = .bool (q && ownP L j) ∧ Box (C3 g c0 c1 c2 wr) ∧ Box (Fs wr p L) ∧ Box (Below W.heap.size W wr)
def ViRel (L : List F) (q : Bool) (j : Nat) (g : Nat) (c0 c1 c2 : Value) (p : Option Addr) (W : World) (ok i : Value) (wr : World) : Prop :=
  ∃ m : Nat, i = .int .i64 m ∧ m ≤ j ∧ ok = .bool (q && ownP L j && newP L j m) ∧ Box (C3 g c0 c1 c2 wr) ∧ Box (Fs wr p L) ∧ Box (Below W.heap.size W wr)
set_option maxHeartbeats 4000000 in
theorem rValue1_any (n x : ByteArray) (w : World) (hn : n.size ≤ 65000) (hx : x.size ≤ 65000) (hk : Box (kindN n = 1)) :
    Calls Tryz.prog 60 #[.string n, .string x] w fun e w' => e = .returned (.bool (valueV n x)) ∧ Below w.heap.size w w' := by
  have hn4 : n.size ≤ 4294967296 := by omega
  obtain ⟨⟨ta, tb, L⟩, hM⟩ : ∃ m, ofM (mediaL x.data.toList) = m := ⟨_, rfl⟩
  obtain ⟨q, hq⟩ : ∃ q, (mediaL x.data.toList).isSome = q := ⟨_, rfl⟩
  have HM := box (And.intro hM hq)
  have HV : Box (valueV n x = (q && ownP L L.length)) := box (by unfold valueV; rw [if_pos hk.out, hM, hq])
  have hL6 : L.length ≤ 65536 := by have := (media_len hM).1; omega
  clear hM hq
  go_enter Tryz.func60, Tryz.ntmps60
  go_wp2_with fail
  refine (rKind15_is hn4 hk).mono ?_; rintro e w1 ⟨rfl, hb1⟩
  have B1 := box hb1
  clear hb1
  go_wp2_with fail
  refine (rMedia15_is hx HM).mono ?_; rintro e w2 ⟨p, c, rfl, hF, hb2⟩
  have B2 := box (B1.out.trans (hb2.mono B1.out.size))
  have F2 := box hF
  have hs2 := B2.out.size
  clear hb2 hF
  have hC := box (C3.new (.string ta) (.string tb) (.slice p L.length c) w2 105)
  have hFa := box (F2.out.below (below_new w2 (.cells #[.string ta, .string tb, .slice p L.length c] 105)))
  have hBa := box (B2.out.alloc hs2 (.cells #[.string ta, .string tb, .slice p L.length c] 105))
  go_wp2_with fail
  go_loopw [6, 7, 8] (fun ok i _ wr => VoRel L q w2.heap.size (.string ta) (.string tb) (.slice p L.length c) p w ok i wr) (fun _ i _ _ => L.length - (intOf i).toNat)
  case atStart => exact ⟨0, rfl, Nat.zero_le _, by unfold ownP; simp, hC, hFa, hBa⟩
  case round =>
    obtain ⟨j, rfl, hj, rfl, C0, F0, B0⟩ := hrel
    obtain ⟨⟨r0, r1, r2⟩, _⟩ := C0.out
    by_cases hlt : j < L.length
    · have hji : (j : Int) < (L.length : Int) := by omega
      go_wp2
      go_loopw [6, 8] (fun ok i wi => ViRel L q j w2.heap.size (.string ta) (.string tb) (.slice p L.length c) p w ok i wi) (fun _ i _ => j - (intOf i).toNat)
      case atStart => exact ⟨0, rfl, Nat.zero_le _, by unfold newP; simp, C0, F0, B0⟩
      case round =>
        obtain ⟨m, rfl, hm, rfl, C1, F1, B3⟩ := hrel
        clear r0 r1 r2
        obtain ⟨⟨r0, r1, r2⟩, _⟩ := C1.out
        have hs3 := B3.out.size
        obtain ⟨b, hb⟩ : ∃ b, (q && ownP L j && newP L j m) = b := ⟨_, rfl⟩
        by_cases hmj : m < j
        · have hmi : (m : Int) < (j : Int) := by omega
          have hml : (m : Int) < (L.length : Int) := by omega
          have hN := newP_more L j m
          obtain ⟨g, off, rfl, c0, _⟩ := F1.out j hlt
          obtain ⟨g', off', e, d0, _⟩ := F1.out m (by omega)
          cases e
          have hq2 : decide (atP L j ≠ atP L m) = (!(L[j].1.toList == (L[m]'(by omega)).1.toList)) := by rw [ne_toList, atP_is hlt, atP_is (by omega : m < L.length)]
          obtain ⟨nj, hnj⟩ : ∃ s, L[j].1 = s := ⟨_, rfl⟩
          obtain ⟨nm, hnm⟩ : ∃ s, (L[m]'(by omega)).1 = s := ⟨_, rfl⟩
          rw [hnj] at c0 hq2
          rw [hnm] at d0 hq2
          rw [hq2] at hN
          have HN : Box ((q && ownP L j && newP L j (m + 1)) = (b && !(nj.toList == nm.toList))) := box (by rw [hN, ← hb, Bool.and_assoc (q && ownP L j)])
          rw [hb]
          clear hnj hnm hq2 hN hb
          rcases b with _ | _
          · clear c0 d0
            go_wp2
            go_quiet (fail)
            go_wp2
            go_roundw
            case rel => exact ⟨m + 1, by go_num, by omega, by rw [HN.out]; rfl, box (C1.out.next (below_drewN _ _)), box (F1.out.below (below_drewN _ _)), box (B3.out.trans ((below_drewN _ _).mono hs3))⟩
            case measure => simp [intOf]; omega
          · obtain ⟨t, ht⟩ : ∃ t, (!(nj.toList == nm.toList)) = t := ⟨_, rfl⟩
            rw [ht] at HN
            go_wp2
            go_quiet (fail)
            go_wp2
            go_roundw
            case rel => exact ⟨m + 1, by go_num, by omega, by rw [HN.out]; rfl, box (C1.out.next (below_drewN _ _)), box (F1.out.below (below_drewN _ _)), box (B3.out.trans ((below_drewN _ _).mono hs3))⟩
            case measure => simp [intOf]; omega
        · have hmi : ¬ (m : Int) < (j : Int) := by omega
          have hmj2 : m = j := by omega
          subst hmj2
          have hN := ownP_more L m
          obtain ⟨g, off, rfl, c0, _⟩ := F1.out m hlt
          have hq2 : decide (atP L m ≠ qName) = (!(L[m].1.toList == qName.toList)) := by rw [ne_toList, atP_is hlt]
          obtain ⟨nj, hnj⟩ : ∃ s, L[m].1 = s := ⟨_, rfl⟩
          rw [hnj] at c0 hq2
          rw [hq2] at hN
          have HN : Box ((q && ownP L (m + 1)) = (b && !(nj.toList == [113]))) := box (by
            rw [hN, ← hb, show qName.toList = [113] from by rw [toList_data]; rfl]
            cases q <;> cases ownP L m <;> cases newP L m m <;> rfl)
          rw [hb]
          clear hnj hq2 hN hb
          rcases b with _ | _
          · clear c0
            go_wp2
            go_roundw
            case rel => exact ⟨m + 1, by go_num, by omega, by rw [HN.out]; rfl, C1, F1, B3⟩
            case measure => simp [intOf]; omega
          · obtain ⟨t, ht⟩ : ∃ t, (!(nj.toList == [113])) = t := ⟨_, rfl⟩
            rw [ht] at HN
            go_wp2
            go_roundw
            case rel => exact ⟨m + 1, by go_num, by omega, by rw [HN.out]; rfl, C1, F1, B3⟩
            case measure => simp [intOf]; omega
    · have hji : ¬ (j : Int) < (L.length : Int) := by omega
      obtain rfl : j = L.length := by omega
      obtain ⟨z, hz⟩ : ∃ z, (q && ownP L L.length) = z := ⟨_, rfl⟩
      have HZ := box hz
      rw [hz]
      clear hz
      go_wp2
      go_ret
      exact ⟨by rw [HV.out, HZ.out]; rfl, B0.out⟩
set_option maxHeartbeats 2000000 in
theorem rValue_any (n x : ByteArray) (w : World) (hn : n.size ≤ 65000) (hx : x.size ≤ 65000) :
    Calls Tryz.prog 60 #[.string n, .string x] w fun e w' => e = .returned (.bool (valueV n x)) ∧ Below w.heap.size w w' := by
  have hn4 : n.size ≤ 4294967296 := by omega
  have hxm : x.size ≤ maxLen := by unfold maxLen; omega
  have HXM := box hxm
  clear hxm
  rcases kind_five n with hk | hk | hk | hk | hk
  · exact rValue1_any n x w hn hx (box hk)
  · have HK := box hk
    obtain ⟨q, hq⟩ : ∃ q, tagL x.data.toList = q := ⟨_, rfl⟩
    have HQ := box hq
    have HV : Box (valueV n x = q) := box (by unfold valueV; rw [hk, ← hq]; rfl)
    clear hk hq
    go_enter Tryz.func60, Tryz.ntmps60
    go_wp2_with fail
    refine (rKind15_is hn4 HK).mono ?_; rintro e w1 ⟨rfl, hb1⟩
    have B1 := box hb1
    clear hb1
    go_wp2_with fail
    refine (rTag_is hx HQ).mono ?_; rintro e w2 ⟨rfl, hb2⟩
    have B2 := box (B1.out.trans (hb2.mono B1.out.size))
    clear hb2
    go_wp2
    go_ret
    exact ⟨by rw [HV.out]; rfl, B2.out⟩
  · have HK := box hk
    have hstar : (!(x.toList == [42])) = decide (x ≠ star) := by rw [← ne_toList, show star.toList = [42] from by rw [toList_data]; rfl]
    obtain ⟨t, ht⟩ : ∃ t, (!(x.toList == [42])) = t := ⟨_, rfl⟩
    have HT := box (hstar.symm.trans ht)
    rcases hq : tokL x.data.toList with _ | _
    · have HQ := box hq
      have HV : Box (valueV n x = false) := box (by unfold valueV; rw [hk, hq]; rfl)
      clear hk hq hstar ht
      go_enter Tryz.func60, Tryz.ntmps60
      go_wp2_with fail
      refine (rKind15_is hn4 HK).mono ?_; rintro e w1 ⟨rfl, hb1⟩
      have B1 := box hb1
      clear hb1
      go_wp2_with fail
      refine (rTok13_is HXM.out HQ).mono ?_; rintro e w2 ⟨rfl, rfl⟩
      go_wp2
      go_ret
      exact ⟨by rw [HV.out]; rfl, B1.out⟩
    · have HQ := box hq
      have HV : Box (valueV n x = t) := box (by unfold valueV; rw [hk, hq, HT.out]; rfl)
      clear hk hq hstar
      go_enter Tryz.func60, Tryz.ntmps60
      go_wp2_with fail
      refine (rKind15_is hn4 HK).mono ?_; rintro e w1 ⟨rfl, hb1⟩
      have B1 := box hb1
      clear hb1
      go_wp2_with fail
      refine (rTok13_is HXM.out HQ).mono ?_; rintro e w2 ⟨rfl, rfl⟩
      go_wp2
      go_ret
      exact ⟨by rw [HV.out]; rfl, B1.out⟩
  · have HK := box hk
    have hstar : (!(x.toList == [42])) = decide (x ≠ star) := by rw [← ne_toList, show star.toList = [42] from by rw [toList_data]; rfl]
    obtain ⟨t, ht⟩ : ∃ t, (!(x.toList == [42])) = t := ⟨_, rfl⟩
    have HT := box (hstar.symm.trans ht)
    rcases hq : tokL x.data.toList with _ | _
    · have HQ := box hq
      have HV : Box (valueV n x = false) := box (by unfold valueV; rw [hk, hq]; rfl)
      clear hk hq hstar ht
      go_enter Tryz.func60, Tryz.ntmps60
      go_wp2_with fail
      refine (rKind15_is hn4 HK).mono ?_; rintro e w1 ⟨rfl, hb1⟩
      have B1 := box hb1
      clear hb1
      go_wp2_with fail
      refine (rTok13_is HXM.out HQ).mono ?_; rintro e w2 ⟨rfl, rfl⟩
      go_wp2
      go_ret
      exact ⟨by rw [HV.out]; rfl, B1.out⟩
    · have HQ := box hq
      have HV : Box (valueV n x = t) := box (by unfold valueV; rw [hk, hq, HT.out]; rfl)
      clear hk hq hstar
      go_enter Tryz.func60, Tryz.ntmps60
      go_wp2_with fail
      refine (rKind15_is hn4 HK).mono ?_; rintro e w1 ⟨rfl, hb1⟩
      have B1 := box hb1
      clear hb1
      go_wp2_with fail
      refine (rTok13_is HXM.out HQ).mono ?_; rintro e w2 ⟨rfl, rfl⟩
      go_wp2
      go_ret
      exact ⟨by rw [HV.out]; rfl, B1.out⟩
  · have HK := box hk
    obtain ⟨y, hy⟩ : ∃ y, bs (trimL x.data.toList) = y := ⟨_, rfl⟩
    have HY := box hy
    have HV : Box (valueV n x = (decide (1 ≤ x.size) && decide (x.size ≤ 100) && textL x.data.toList && (y.toList == x.toList))) := box (by
      unfold valueV
      rw [if_neg (by omega), if_neg (by omega), if_neg (by omega), ← hy, toList_bs, toList_data]
      congr 1
      by_cases e : trimL x.data.toList = x.data.toList
      · rw [decide_eq_true e, e]; simp
      · rw [decide_eq_false e]; exact (beq_eq_false_iff_ne.2 e).symm)
    obtain ⟨t, ht⟩ : ∃ t, (y.toList == x.toList) = t := ⟨_, rfl⟩
    rw [ht] at HV
    clear hk hy
    by_cases h1 : 1 ≤ x.size
    · have i1 : (1 : Int) ≤ (x.size : Int) := by omega
      by_cases h2 : x.size ≤ 100
      · have i2 : (x.size : Int) ≤ 100 := by omega
        rcases hq : textL x.data.toList with _ | _
        · have HQ := box hq
          have HW : Box (valueV n x = false) := box (by rw [HV.out, hq]; simp)
          clear hq ht HV
          go_enter Tryz.func60, Tryz.ntmps60
          go_wp2_with fail
          refine (rKind15_is hn4 HK).mono ?_; rintro e w1 ⟨rfl, hb1⟩
          have B1 := box hb1
          clear hb1
          go_wp2_with fail
          refine (rText15_is HXM.out HQ).mono ?_; rintro e w2 ⟨rfl, rfl⟩
          go_wp2
          go_ret
          exact ⟨by rw [HW.out]; rfl, B1.out⟩
        · have HQ := box hq
          have HW : Box (valueV n x = t) := box (by rw [HV.out, hq, decide_eq_true h1, decide_eq_true h2]; simp)
          clear hq HV
          go_enter Tryz.func60, Tryz.ntmps60
          go_wp2_with fail
          refine (rKind15_is hn4 HK).mono ?_; rintro e w1 ⟨rfl, hb1⟩
          have B1 := box hb1
          clear hb1
          go_wp2_with fail
          refine (rText15_is HXM.out HQ).mono ?_; rintro e w2 ⟨rfl, rfl⟩
          go_wp2_with fail
          refine (rTrim_is HXM.out HY).mono ?_; rintro e w3 ⟨rfl, rfl⟩
          go_wp2
          go_ret
          exact ⟨by rw [HW.out]; rfl, B1.out⟩
      · have i2 : ¬ (x.size : Int) ≤ 100 := by omega
        have HW : Box (valueV n x = false) := box (by rw [HV.out, decide_eq_false h2]; simp)
        clear ht HV
        go_enter Tryz.func60, Tryz.ntmps60
        go_wp2_with fail
        refine (rKind15_is hn4 HK).mono ?_; rintro e w1 ⟨rfl, hb1⟩
        have B1 := box hb1
        clear hb1
        go_wp2
        go_ret
        exact ⟨by rw [HW.out]; rfl, B1.out⟩
    · have i1 : ¬ (1 : Int) ≤ (x.size : Int) := by omega
      have HW : Box (valueV n x = false) := box (by rw [HV.out, decide_eq_false h1]; simp)
      clear ht HV
      go_enter Tryz.func60, Tryz.ntmps60
      go_wp2_with fail
      refine (rKind15_is hn4 HK).mono ?_; rintro e w1 ⟨rfl, hb1⟩
      have B1 := box hb1
      clear hb1
      go_wp2
      go_ret
      exact ⟨by rw [HW.out]; rfl, B1.out⟩
end
section
open Go.RowKit
theorem rSame15_is {n x y : ByteArray} {q : Bool} {w : World} (hn : n.size ≤ 65000) (hx : x.size ≤ 65000) (hy : y.size ≤ 65000) (h : Box (sameV n x y = q)) :
    Calls Tryz.prog 26 #[.string n, .string x, .string y] w fun e w' => e = .returned (.bool q) ∧ Below w.heap.size w w' :=
  (rSame15_any n x y w hn hx hy).mono fun e w' ⟨h1, h2⟩ => ⟨by rw [h1, h.out], h2⟩
theorem rValue_is {n x : ByteArray} {q : Bool} {w : World} (hn : n.size ≤ 65000) (hx : x.size ≤ 65000) (h : Box (valueV n x = q)) :
    Calls Tryz.prog 60 #[.string n, .string x] w fun e w' => e = .returned (.bool q) ∧ Below w.heap.size w w' :=
  (rValue_any n x w hn hx).mono fun e w' ⟨h1, h2⟩ => ⟨by rw [h1, h.out], h2⟩
theorem head_no1 {n : ByteArray} {V : List ByteArray} (h : tokL n.data.toList = false) : validA (n, V) = false := by unfold validA headV; simp [h]
theorem head_no2 {n : ByteArray} {V : List ByteArray} (h : ¬ lowL n.data.toList = n.data.toList) : validA (n, V) = false := by unfold validA headV; simp [h]
theorem head_no3 {n : ByteArray} {V : List ByteArray} (h : ¬ 1 ≤ V.length) : validA (n, V) = false := by unfold validA headV; rw [decide_eq_false h]; simp
theorem head_no4 {n : ByteArray} {V : List ByteArray} (h : ¬ V.length ≤ 16) : validA (n, V) = false := by unfold validA headV; rw [decide_eq_false h]; simp
theorem head_yes {n : ByteArray} {V : List ByteArray} (h1 : tokL n.data.toList = true) (h2 : lowL n.data.toList = n.data.toList) (h3 : 1 ≤ V.length) (h4 : V.length ≤ 16) : validA (n, V) = valsV n V V.length := by
  unfold validA headV; simp [h1, h2, h3, h4]
theorem vals_no {n : ByteArray} {V : List ByteArray} {i m : Nat} (h : i < m) (hf : (valueV n (atS V i) && newV n V i i) = false) : valsV n V m = false := range_no h hf
theorem new_no {n : ByteArray} {V : List ByteArray} {i j : Nat} (h : j < i) (hf : sameV n (atS V i) (atS V j) = true) : newV n V i i = false := range_no h (by rw [hf]; rfl)
def AoRel (n : ByteArray) (V : List ByteArray) (W0 : World) (i : Value) (wr : World) : Prop :=
  ∃ j : Nat, i = .int .i64 j ∧ j ≤ V.length ∧ valsV n V j = true ∧ Box (Below W0.heap.size W0 wr)
def AiRel (n : ByteArray) (V : List ByteArray) (j : Nat) (W0 : World) (i : Value) (wr : World) : Prop :=
  ∃ m : Nat, i = .int .i64 m ∧ m ≤ j ∧ newV n V j m = true ∧ Box (Below W0.heap.size W0 wr)
set_option maxHeartbeats 8000000 in
theorem rValidAxis_any (n : ByteArray) (b : Option Addr) (c : Nat) (V : List ByteArray) (w : World) (hn : n.size ≤ 65000) (hl : V.length ≤ 65536) (hz : Box (∀ i (hi : i < V.length), V[i].size ≤ 65000)) (hF : Box (Ss w b V)) :
    Calls Tryz.prog 34 #[.agg #[.string n, .slice b V.length c]] w fun e w' => e = .returned (.bool (validA (n, V))) ∧ Below w.heap.size w w' := by
  have hn4 : n.size ≤ 4294967296 := by omega
  have hnm : n.size ≤ maxLen := by unfold maxLen; omega
  have HNM := box hnm
  clear hnm
  have hC := C2.new (.string n) (.slice b V.length c) w 42
  have c0 := hC.1.1
  have c1 := hC.1.2
  have F0 := box (hF.out.below (below_new w (.cells #[.string n, .slice b V.length c] 42)))
  have B0 := box (below_new w (.cells #[.string n, .slice b V.length c] 42))
  have HC := box hC
  clear hC
  rcases ht : tokL n.data.toList with _ | _
  · have HT := box ht
    have HV := box (head_no1 (V := V) ht)
    clear ht
    go_enter Tryz.func34, Tryz.ntmps34
    go_wp2
    refine wp_region_held_drew (S := (fun w' : World => (w'.cell? ⟨w.heap.size, 0, none⟩ = some (.string n) ∧ w'.cell? ⟨w.heap.size, 1, none⟩ = some (.slice b V.length c)) ∧ Box (Below (w.alloc (.cells #[.string n, .slice b V.length c] 42)).heap.size (w.alloc (.cells #[.string n, .slice b V.length c] 42)) w'))) (by kernel_rfl) ⟨⟨c0, c1⟩, box (Below.refl _ _).drew⟩ (fun hHeld => ?_)
    refine wpAnyH_take (i := 0) (oi := { dst := some 5, op := Op.fieldAddr 42 (Operand.tmp 1) 0, type := 0, pos := "variants.go:41", after := #[], guard := none }) (v := ?v0z1) rfl (by kernel_rfl) (by kernel_rfl) (by kernel_rfl) (fun _ _ _ h => h) (Or.inl ⟨by rfl, ?y0z1⟩) (by assumption) ?r0z1
    case y0z1 => (intro w hSw; (try dsimp only at hSw); go_simp; first | done | with_reducible rfl)
    try simp only [Act.put, List.setIfInBounds_toArray, List.set_cons_zero, List.set_cons_succ]
    refine wpAnyH_take (i := 1) (oi := { dst := some 6, op := Op.load 9 (Operand.tmp 5), type := 9, pos := "variants.go:41", after := #[{ on := 0, ground := Ground.data }], guard := none }) (v := ?v1z1) rfl (by kernel_rfl) (by kernel_rfl) (by kernel_rfl) (fun _ _ _ h => h) (Or.inl ⟨by rfl, ?y1z1⟩) (by assumption) ?r1z1
    case y1z1 => (intro w hSw; (try dsimp only at hSw); go_simp; first | done | with_reducible rfl)
    try simp only [Act.put, List.setIfInBounds_toArray, List.set_cons_zero, List.set_cons_succ]
    refine wpAnyH_ready (rs := [2]) (by kernel_rfl) (by simp) ?_
    refine AllReadyH.cons (o := { dst := some 7, op := Op.call { callee := Callee.value (Operand.func 58), args := #[Operand.tmp 6], argTypes := #[9] }, type := 4, pos := "variants.go:41", after := #[{ on := 1, ground := Ground.data }], guard := none }) rfl (fun K hK => ?_) AllReadyH.nil
    go_simp
    refine (rTok13_is HNM.out HT).mono ?_; rintro e w2 ⟨rfl, rfl⟩
    go_wp2_with fail
    refine hK.out _ _ ⟨hHeld.1, hHeld.2⟩ (fun hHeld => ?_)
    clear hK K
    try simp only [Act.put, List.setIfInBounds_toArray, List.set_cons_zero, List.set_cons_succ]
    refine wpAnyH_take (i := 3) (oi := { dst := some 8, op := Op.unOp UnOp.not 4 (Operand.tmp 7), type := 4, pos := "variants.go:41", after := #[{ on := 2, ground := Ground.data }], guard := none }) (v := ?v3z1) rfl (by kernel_rfl) (by kernel_rfl) (by kernel_rfl) (fun _ _ _ h => h) (Or.inl ⟨by rfl, ?y3z1⟩) (by assumption) ?r3z1
    case y3z1 => (intro w hSw; (try dsimp only at hSw); go_simp; first | done | with_reducible rfl)
    try simp only [Act.put, List.setIfInBounds_toArray, List.set_cons_zero, List.set_cons_succ]
    refine wpAnyH_take (i := 4) (oi := { dst := some 9, op := Op.move (Operand.tmp 8), type := 4, pos := "variants.go:41", after := #[{ on := 3, ground := Ground.data }, { on := 2, ground := Ground.chain }], guard := none }) (v := ?v4z1) rfl (by kernel_rfl) (by kernel_rfl) (by kernel_rfl) (fun _ _ _ h => h) (Or.inl ⟨by rfl, ?y4z1⟩) (by assumption) ?r4z1
    case y4z1 => (intro w hSw; (try dsimp only at hSw); go_simp; first | done | with_reducible rfl)
    try simp only [Act.put, List.setIfInBounds_toArray, List.set_cons_zero, List.set_cons_succ]
    refine wpAnyH_take (i := 5) (oi := { dst := some 10, op := Op.fieldAddr 42 (Operand.tmp 1) 0, type := 0, pos := "variants.go:41", after := #[{ on := 4, ground := Ground.guard }], guard := some (4, false) }) (v := undef) rfl (by kernel_rfl) (by kernel_rfl) (by kernel_rfl) (fun _ _ _ h => h) (Or.inr ⟨by rfl, rfl⟩) (by assumption) ?_
    try simp only [Act.put, List.setIfInBounds_toArray, List.set_cons_zero, List.set_cons_succ]
    refine wpAnyH_take (i := 6) (oi := { dst := some 11, op := Op.load 9 (Operand.tmp 10), type := 9, pos := "variants.go:41", after := #[{ on := 5, ground := Ground.data }, { on := 4, ground := Ground.guard }], guard := some (4, false) }) (v := undef) rfl (by kernel_rfl) (by kernel_rfl) (by kernel_rfl) (fun _ _ _ h => h) (Or.inr ⟨by rfl, rfl⟩) (by assumption) ?_
    try simp only [Act.put, List.setIfInBounds_toArray, List.set_cons_zero, List.set_cons_succ]
    refine wpAnyH_take (i := 7) (oi := { dst := some 12, op := Op.call { callee := Callee.value (Operand.func 59), args := #[Operand.tmp 11], argTypes := #[9] }, type := 9, pos := "variants.go:41", after := #[{ on := 6, ground := Ground.data }, { on := 4, ground := Ground.chain }, { on := 4, ground := Ground.guard }], guard := some (4, false) }) (v := undef) rfl (by kernel_rfl) (by kernel_rfl) (by kernel_rfl) (fun _ _ _ h => h) (Or.inr ⟨by rfl, rfl⟩) (by assumption) ?_
    try simp only [Act.put, List.setIfInBounds_toArray, List.set_cons_zero, List.set_cons_succ]
    refine wpAnyH_take (i := 8) (oi := { dst := some 13, op := Op.fieldAddr 42 (Operand.tmp 1) 0, type := 0, pos := "variants.go:41", after := #[{ on := 4, ground := Ground.guard }], guard := some (4, false) }) (v := undef) rfl (by kernel_rfl) (by kernel_rfl) (by kernel_rfl) (fun _ _ _ h => h) (Or.inr ⟨by rfl, rfl⟩) (by assumption) ?_
    try simp only [Act.put, List.setIfInBounds_toArray, List.set_cons_zero, List.set_cons_succ]
    refine wpAnyH_take (i := 9) (oi := { dst := some 14, op := Op.load 9 (Operand.tmp 13), type := 9, pos := "variants.go:41", after := #[{ on := 8, ground := Ground.data }, { on := 4, ground := Ground.guard }], guard := some (4, false) }) (v := undef) rfl (by kernel_rfl) (by kernel_rfl) (by kernel_rfl) (fun _ _ _ h => h) (Or.inr ⟨by rfl, rfl⟩) (by assumption) ?_
    try simp only [Act.put, List.setIfInBounds_toArray, List.set_cons_zero, List.set_cons_succ]
    refine wpAnyH_take (i := 10) (oi := { dst := some 15, op := Op.binOp BinOp.neq 9 (Operand.tmp 12) (Operand.tmp 14) 9, type := 4, pos := "variants.go:41", after := #[{ on := 7, ground := Ground.data }, { on := 9, ground := Ground.data }, { on := 4, ground := Ground.guard }], guard := some (4, false) }) (v := undef) rfl (by kernel_rfl) (by kernel_rfl) (by kernel_rfl) (fun _ _ _ h => h) (Or.inr ⟨by rfl, rfl⟩) (by assumption) ?_
    try simp only [Act.put, List.setIfInBounds_toArray, List.set_cons_zero, List.set_cons_succ]
    refine wpAnyH_take (i := 11) (oi := { dst := some 16, op := Op.pick (Operand.tmp 9) (Operand.const (Value.bool true)) (Operand.tmp 15), type := 4, pos := "variants.go:41", after := #[{ on := 4, ground := Ground.data }, { on := 10, ground := Ground.data }], guard := none }) (v := ?v11z1) rfl (by kernel_rfl) (by kernel_rfl) (by kernel_rfl) (fun _ _ _ h => h) (Or.inl ⟨by rfl, ?y11z1⟩) (by assumption) ?r11z1
    case y11z1 => (intro w hSw; (try dsimp only at hSw); go_simp; first | done | with_reducible rfl)
    try simp only [Act.put, List.setIfInBounds_toArray, List.set_cons_zero, List.set_cons_succ]
    refine wpAnyH_take (i := 12) (oi := { dst := some 17, op := Op.move (Operand.tmp 16), type := 4, pos := "variants.go:41", after := #[{ on := 11, ground := Ground.data }, { on := 7, ground := Ground.chain }], guard := none }) (v := ?v12z1) rfl (by kernel_rfl) (by kernel_rfl) (by kernel_rfl) (fun _ _ _ h => h) (Or.inl ⟨by rfl, ?y12z1⟩) (by assumption) ?r12z1
    case y12z1 => (intro w hSw; (try dsimp only at hSw); go_simp; first | done | with_reducible rfl)
    try simp only [Act.put, List.setIfInBounds_toArray, List.set_cons_zero, List.set_cons_succ]
    refine wpAnyH_take (i := 13) (oi := { dst := some 18, op := Op.fieldAddr 42 (Operand.tmp 1) 1, type := 0, pos := "variants.go:41", after := #[{ on := 12, ground := Ground.guard }], guard := some (12, false) }) (v := undef) rfl (by kernel_rfl) (by kernel_rfl) (by kernel_rfl) (fun _ _ _ h => h) (Or.inr ⟨by rfl, rfl⟩) (by assumption) ?_
    try simp only [Act.put, List.setIfInBounds_toArray, List.set_cons_zero, List.set_cons_succ]
    refine wpAnyH_take (i := 14) (oi := { dst := some 19, op := Op.load 33 (Operand.tmp 18), type := 33, pos := "variants.go:41", after := #[{ on := 13, ground := Ground.data }, { on := 12, ground := Ground.guard }], guard := some (12, false) }) (v := undef) rfl (by kernel_rfl) (by kernel_rfl) (by kernel_rfl) (fun _ _ _ h => h) (Or.inr ⟨by rfl, rfl⟩) (by assumption) ?_
    try simp only [Act.put, List.setIfInBounds_toArray, List.set_cons_zero, List.set_cons_succ]
    refine wpAnyH_take (i := 15) (oi := { dst := some 20, op := Op.call { callee := Callee.builtin Builtin.len, args := #[Operand.tmp 19], argTypes := #[33] }, type := 3, pos := "variants.go:41", after := #[{ on := 14, ground := Ground.data }, { on := 12, ground := Ground.guard }], guard := some (12, false) }) (v := undef) rfl (by kernel_rfl) (by kernel_rfl) (by kernel_rfl) (fun _ _ _ h => h) (Or.inr ⟨by rfl, rfl⟩) (by assumption) ?_
    try simp only [Act.put, List.setIfInBounds_toArray, List.set_cons_zero, List.set_cons_succ]
    refine wpAnyH_take (i := 16) (oi := { dst := some 21, op := Op.binOp BinOp.lss 3 (Operand.tmp 20) (Operand.const (Value.int IntKind.i64 1)) 3, type := 4, pos := "variants.go:41", after := #[{ on := 15, ground := Ground.data }, { on := 12, ground := Ground.guard }], guard := some (12, false) }) (v := undef) rfl (by kernel_rfl) (by kernel_rfl) (by kernel_rfl) (fun _ _ _ h => h) (Or.inr ⟨by rfl, rfl⟩) (by assumption) ?_
    try simp only [Act.put, List.setIfInBounds_toArray, List.set_cons_zero, List.set_cons_succ]
    refine wpAnyH_take (i := 17) (oi := { dst := some 22, op := Op.pick (Operand.tmp 17) (Operand.const (Value.bool true)) (Operand.tmp 21), type := 4, pos := "variants.go:41", after := #[{ on := 12, ground := Ground.data }, { on := 16, ground := Ground.data }], guard := none }) (v := ?v17z1) rfl (by kernel_rfl) (by kernel_rfl) (by kernel_rfl) (fun _ _ _ h => h) (Or.inl ⟨by rfl, ?y17z1⟩) (by assumption) ?r17z1
    case y17z1 => (intro w hSw; (try dsimp only at hSw); go_simp; first | done | with_reducible rfl)
    try simp only [Act.put, List.setIfInBounds_toArray, List.set_cons_zero, List.set_cons_succ]
    refine wpAnyH_take (i := 18) (oi := { dst := some 23, op := Op.move (Operand.tmp 22), type := 4, pos := "variants.go:41", after := #[{ on := 17, ground := Ground.data }, { on := 12, ground := Ground.chain }], guard := none }) (v := ?v18z1) rfl (by kernel_rfl) (by kernel_rfl) (by kernel_rfl) (fun _ _ _ h => h) (Or.inl ⟨by rfl, ?y18z1⟩) (by assumption) ?r18z1
    case y18z1 => (intro w hSw; (try dsimp only at hSw); go_simp; first | done | with_reducible rfl)
    try simp only [Act.put, List.setIfInBounds_toArray, List.set_cons_zero, List.set_cons_succ]
    refine wpAnyH_take (i := 19) (oi := { dst := some 24, op := Op.fieldAddr 42 (Operand.tmp 1) 1, type := 0, pos := "variants.go:41", after := #[{ on := 18, ground := Ground.guard }], guard := some (18, false) }) (v := undef) rfl (by kernel_rfl) (by kernel_rfl) (by kernel_rfl) (fun _ _ _ h => h) (Or.inr ⟨by rfl, rfl⟩) (by assumption) ?_
    try simp only [Act.put, List.setIfInBounds_toArray, List.set_cons_zero, List.set_cons_succ]
    refine wpAnyH_take (i := 20) (oi := { dst := some 25, op := Op.load 33 (Operand.tmp 24), type := 33, pos := "variants.go:41", after := #[{ on := 19, ground := Ground.data }, { on := 18, ground := Ground.guard }], guard := some (18, false) }) (v := undef) rfl (by kernel_rfl) (by kernel_rfl) (by kernel_rfl) (fun _ _ _ h => h) (Or.inr ⟨by rfl, rfl⟩) (by assumption) ?_
    try simp only [Act.put, List.setIfInBounds_toArray, List.set_cons_zero, List.set_cons_succ]
    refine wpAnyH_take (i := 21) (oi := { dst := some 26, op := Op.call { callee := Callee.builtin Builtin.len, args := #[Operand.tmp 25], argTypes := #[33] }, type := 3, pos := "variants.go:41", after := #[{ on := 20, ground := Ground.data }, { on := 18, ground := Ground.guard }], guard := some (18, false) }) (v := undef) rfl (by kernel_rfl) (by kernel_rfl) (by kernel_rfl) (fun _ _ _ h => h) (Or.inr ⟨by rfl, rfl⟩) (by assumption) ?_
    try simp only [Act.put, List.setIfInBounds_toArray, List.set_cons_zero, List.set_cons_succ]
    refine wpAnyH_take (i := 22) (oi := { dst := some 27, op := Op.binOp BinOp.gtr 3 (Operand.tmp 26) (Operand.const (Value.int IntKind.i64 16)) 3, type := 4, pos := "variants.go:41", after := #[{ on := 21, ground := Ground.data }, { on := 18, ground := Ground.guard }], guard := some (18, false) }) (v := undef) rfl (by kernel_rfl) (by kernel_rfl) (by kernel_rfl) (fun _ _ _ h => h) (Or.inr ⟨by rfl, rfl⟩) (by assumption) ?_
    try simp only [Act.put, List.setIfInBounds_toArray, List.set_cons_zero, List.set_cons_succ]
    refine wpAnyH_take (i := 23) (oi := { dst := some 28, op := Op.pick (Operand.tmp 23) (Operand.const (Value.bool true)) (Operand.tmp 27), type := 4, pos := "variants.go:41", after := #[{ on := 18, ground := Ground.data }, { on := 22, ground := Ground.data }], guard := none }) (v := ?v23z1) rfl (by kernel_rfl) (by kernel_rfl) (by kernel_rfl) (fun _ _ _ h => h) (Or.inl ⟨by rfl, ?y23z1⟩) (by assumption) ?r23z1
    case y23z1 => (intro w hSw; (try dsimp only at hSw); go_simp; first | done | with_reducible rfl)
    try simp only [Act.put, List.setIfInBounds_toArray, List.set_cons_zero, List.set_cons_succ]
    refine wpAnyH_done (by kernel_rfl) ?_ _
    all_goals
      go_wp2
      go_ret
      exact ⟨by rw [HV.out]; rfl, B0.out.trans (hHeld.2.out.mono B0.out.size)⟩
  · have HT := box ht
    obtain ⟨lx, hlx⟩ : ∃ x, bs (lowL n.data.toList) = x := ⟨_, rfl⟩
    have HL := box hlx
    by_cases hlo : lowL n.data.toList = n.data.toList
    · have hneq : (lx.toList == n.toList) = true := by rw [← hlx, toList_bs, toList_data, hlo]; simp
      by_cases h1 : 1 ≤ V.length
      · have i1 : decide ((V.length : Int) < 1) = false := decide_eq_false (by omega)
        by_cases h2 : V.length ≤ 16
        · have i2 : decide ((16 : Int) < (V.length : Int)) = false := decide_eq_false (by omega)
          have HV := box (head_yes ht hlo h1 h2)
          clear ht hlx hlo
          go_enter Tryz.func34, Tryz.ntmps34
          go_wp2
          refine wp_region_held_drew (S := (fun w' : World => (w'.cell? ⟨w.heap.size, 0, none⟩ = some (.string n) ∧ w'.cell? ⟨w.heap.size, 1, none⟩ = some (.slice b V.length c)) ∧ Box (Below (w.alloc (.cells #[.string n, .slice b V.length c] 42)).heap.size (w.alloc (.cells #[.string n, .slice b V.length c] 42)) w'))) (by kernel_rfl) ⟨⟨c0, c1⟩, box (Below.refl _ _).drew⟩ (fun hHeld => ?_)
          refine wpAnyH_take (i := 0) (oi := { dst := some 5, op := Op.fieldAddr 42 (Operand.tmp 1) 0, type := 0, pos := "variants.go:41", after := #[], guard := none }) (v := ?v0z2) rfl (by kernel_rfl) (by kernel_rfl) (by kernel_rfl) (fun _ _ _ h => h) (Or.inl ⟨by rfl, ?y0z2⟩) (by assumption) ?r0z2
          case y0z2 => (intro w hSw; (try dsimp only at hSw); go_simp; first | done | with_reducible rfl)
          try simp only [Act.put, List.setIfInBounds_toArray, List.set_cons_zero, List.set_cons_succ]
          refine wpAnyH_take (i := 1) (oi := { dst := some 6, op := Op.load 9 (Operand.tmp 5), type := 9, pos := "variants.go:41", after := #[{ on := 0, ground := Ground.data }], guard := none }) (v := ?v1z2) rfl (by kernel_rfl) (by kernel_rfl) (by kernel_rfl) (fun _ _ _ h => h) (Or.inl ⟨by rfl, ?y1z2⟩) (by assumption) ?r1z2
          case y1z2 => (intro w hSw; (try dsimp only at hSw); go_simp; first | done | with_reducible rfl)
          try simp only [Act.put, List.setIfInBounds_toArray, List.set_cons_zero, List.set_cons_succ]
          refine wpAnyH_ready (rs := [2]) (by kernel_rfl) (by simp) ?_
          refine AllReadyH.cons (o := { dst := some 7, op := Op.call { callee := Callee.value (Operand.func 58), args := #[Operand.tmp 6], argTypes := #[9] }, type := 4, pos := "variants.go:41", after := #[{ on := 1, ground := Ground.data }], guard := none }) rfl (fun K hK => ?_) AllReadyH.nil
          go_simp
          refine (rTok13_is HNM.out HT).mono ?_; rintro e w2 ⟨rfl, rfl⟩
          go_wp2_with fail
          refine hK.out _ _ ⟨hHeld.1, hHeld.2⟩ (fun hHeld => ?_)
          clear hK K
          try simp only [Act.put, List.setIfInBounds_toArray, List.set_cons_zero, List.set_cons_succ]
          refine wpAnyH_take (i := 3) (oi := { dst := some 8, op := Op.unOp UnOp.not 4 (Operand.tmp 7), type := 4, pos := "variants.go:41", after := #[{ on := 2, ground := Ground.data }], guard := none }) (v := ?v3z2) rfl (by kernel_rfl) (by kernel_rfl) (by kernel_rfl) (fun _ _ _ h => h) (Or.inl ⟨by rfl, ?y3z2⟩) (by assumption) ?r3z2
          case y3z2 => (intro w hSw; (try dsimp only at hSw); go_simp; first | done | with_reducible rfl)
          try simp only [Act.put, List.setIfInBounds_toArray, List.set_cons_zero, List.set_cons_succ]
          refine wpAnyH_take (i := 4) (oi := { dst := some 9, op := Op.move (Operand.tmp 8), type := 4, pos := "variants.go:41", after := #[{ on := 3, ground := Ground.data }, { on := 2, ground := Ground.chain }], guard := none }) (v := ?v4z2) rfl (by kernel_rfl) (by kernel_rfl) (by kernel_rfl) (fun _ _ _ h => h) (Or.inl ⟨by rfl, ?y4z2⟩) (by assumption) ?r4z2
          case y4z2 => (intro w hSw; (try dsimp only at hSw); go_simp; first | done | with_reducible rfl)
          try simp only [Act.put, List.setIfInBounds_toArray, List.set_cons_zero, List.set_cons_succ]
          refine wpAnyH_take (i := 5) (oi := { dst := some 10, op := Op.fieldAddr 42 (Operand.tmp 1) 0, type := 0, pos := "variants.go:41", after := #[{ on := 4, ground := Ground.guard }], guard := some (4, false) }) (v := ?v5z2) rfl (by kernel_rfl) (by kernel_rfl) (by kernel_rfl) (fun _ _ _ h => h) (Or.inl ⟨by rfl, ?y5z2⟩) (by assumption) ?r5z2
          case y5z2 => (intro w hSw; (try dsimp only at hSw); go_simp; first | done | with_reducible rfl)
          try simp only [Act.put, List.setIfInBounds_toArray, List.set_cons_zero, List.set_cons_succ]
          refine wpAnyH_take (i := 6) (oi := { dst := some 11, op := Op.load 9 (Operand.tmp 10), type := 9, pos := "variants.go:41", after := #[{ on := 5, ground := Ground.data }, { on := 4, ground := Ground.guard }], guard := some (4, false) }) (v := ?v6z2) rfl (by kernel_rfl) (by kernel_rfl) (by kernel_rfl) (fun _ _ _ h => h) (Or.inl ⟨by rfl, ?y6z2⟩) (by assumption) ?r6z2
          case y6z2 => (intro w hSw; (try dsimp only at hSw); go_simp; first | done | with_reducible rfl)
          try simp only [Act.put, List.setIfInBounds_toArray, List.set_cons_zero, List.set_cons_succ]
          refine wpAnyH_take (i := 8) (oi := { dst := some 13, op := Op.fieldAddr 42 (Operand.tmp 1) 0, type := 0, pos := "variants.go:41", after := #[{ on := 4, ground := Ground.guard }], guard := some (4, false) }) (v := ?v8z2) rfl (by kernel_rfl) (by kernel_rfl) (by kernel_rfl) (fun _ _ _ h => h) (Or.inl ⟨by rfl, ?y8z2⟩) (by assumption) ?r8z2
          case y8z2 => (intro w hSw; (try dsimp only at hSw); go_simp; first | done | with_reducible rfl)
          try simp only [Act.put, List.setIfInBounds_toArray, List.set_cons_zero, List.set_cons_succ]
          refine wpAnyH_take (i := 9) (oi := { dst := some 14, op := Op.load 9 (Operand.tmp 13), type := 9, pos := "variants.go:41", after := #[{ on := 8, ground := Ground.data }, { on := 4, ground := Ground.guard }], guard := some (4, false) }) (v := ?v9z2) rfl (by kernel_rfl) (by kernel_rfl) (by kernel_rfl) (fun _ _ _ h => h) (Or.inl ⟨by rfl, ?y9z2⟩) (by assumption) ?r9z2
          case y9z2 => (intro w hSw; (try dsimp only at hSw); go_simp; first | done | with_reducible rfl)
          try simp only [Act.put, List.setIfInBounds_toArray, List.set_cons_zero, List.set_cons_succ]
          refine wpAnyH_ready (rs := [7]) (by kernel_rfl) (by simp) ?_
          refine AllReadyH.cons (o := { dst := some 12, op := Op.call { callee := Callee.value (Operand.func 59), args := #[Operand.tmp 11], argTypes := #[9] }, type := 9, pos := "variants.go:41", after := #[{ on := 6, ground := Ground.data }, { on := 4, ground := Ground.chain }, { on := 4, ground := Ground.guard }], guard := some (4, false) }) rfl (fun K hK => ?_) AllReadyH.nil
          go_simp
          refine (rLow12_is hn4 HL).mono ?_; rintro e w2 ⟨rfl, hb2⟩
          go_wp2_with fail
          refine hK.out _ _ ⟨⟨(hb2.cell (p := ⟨w.heap.size, 0, none⟩) (cell_lt hHeld.1.1)).trans hHeld.1.1, (hb2.cell (p := ⟨w.heap.size, 1, none⟩) (cell_lt hHeld.1.2)).trans hHeld.1.2⟩, box (hHeld.2.out.trans (hb2.mono hHeld.2.out.size))⟩ (fun hHeld => ?_)
          clear hK K
          try simp only [Act.put, List.setIfInBounds_toArray, List.set_cons_zero, List.set_cons_succ]
          refine wpAnyH_take (i := 10) (oi := { dst := some 15, op := Op.binOp BinOp.neq 9 (Operand.tmp 12) (Operand.tmp 14) 9, type := 4, pos := "variants.go:41", after := #[{ on := 7, ground := Ground.data }, { on := 9, ground := Ground.data }, { on := 4, ground := Ground.guard }], guard := some (4, false) }) (v := ?v10z2) rfl (by kernel_rfl) (by kernel_rfl) (by kernel_rfl) (fun _ _ _ h => h) (Or.inl ⟨by rfl, ?y10z2⟩) (by assumption) ?r10z2
          case y10z2 => (intro w hSw; (try dsimp only at hSw); go_simp; first | done | with_reducible rfl)
          try simp only [Act.put, List.setIfInBounds_toArray, List.set_cons_zero, List.set_cons_succ]
          refine wpAnyH_take (i := 11) (oi := { dst := some 16, op := Op.pick (Operand.tmp 9) (Operand.const (Value.bool true)) (Operand.tmp 15), type := 4, pos := "variants.go:41", after := #[{ on := 4, ground := Ground.data }, { on := 10, ground := Ground.data }], guard := none }) (v := ?v11z2) rfl (by kernel_rfl) (by kernel_rfl) (by kernel_rfl) (fun _ _ _ h => h) (Or.inl ⟨by rfl, ?y11z2⟩) (by assumption) ?r11z2
          case y11z2 => (intro w hSw; (try dsimp only at hSw); go_simp; first | done | with_reducible rfl)
          try simp only [Act.put, List.setIfInBounds_toArray, List.set_cons_zero, List.set_cons_succ]
          refine wpAnyH_take (i := 12) (oi := { dst := some 17, op := Op.move (Operand.tmp 16), type := 4, pos := "variants.go:41", after := #[{ on := 11, ground := Ground.data }, { on := 7, ground := Ground.chain }], guard := none }) (v := ?v12z2) rfl (by kernel_rfl) (by kernel_rfl) (by kernel_rfl) (fun _ _ _ h => h) (Or.inl ⟨by rfl, ?y12z2⟩) (by assumption) ?r12z2
          case y12z2 => (intro w hSw; (try dsimp only at hSw); go_simp; first | done | with_reducible rfl)
          try simp only [Act.put, List.setIfInBounds_toArray, List.set_cons_zero, List.set_cons_succ]
          refine wpAnyH_take (i := 13) (oi := { dst := some 18, op := Op.fieldAddr 42 (Operand.tmp 1) 1, type := 0, pos := "variants.go:41", after := #[{ on := 12, ground := Ground.guard }], guard := some (12, false) }) (v := ?v13z2) rfl (by kernel_rfl) (by kernel_rfl) (by kernel_rfl) (fun _ _ _ h => h) (Or.inl ⟨by rfl, ?y13z2⟩) (by assumption) ?r13z2
          case y13z2 => (intro w hSw; (try dsimp only at hSw); go_simp; first | done | with_reducible rfl)
          try simp only [Act.put, List.setIfInBounds_toArray, List.set_cons_zero, List.set_cons_succ]
          refine wpAnyH_take (i := 14) (oi := { dst := some 19, op := Op.load 33 (Operand.tmp 18), type := 33, pos := "variants.go:41", after := #[{ on := 13, ground := Ground.data }, { on := 12, ground := Ground.guard }], guard := some (12, false) }) (v := ?v14z2) rfl (by kernel_rfl) (by kernel_rfl) (by kernel_rfl) (fun _ _ _ h => h) (Or.inl ⟨by rfl, ?y14z2⟩) (by assumption) ?r14z2
          case y14z2 => (intro w hSw; (try dsimp only at hSw); go_simp; first | done | with_reducible rfl)
          try simp only [Act.put, List.setIfInBounds_toArray, List.set_cons_zero, List.set_cons_succ]
          refine wpAnyH_take (i := 15) (oi := { dst := some 20, op := Op.call { callee := Callee.builtin Builtin.len, args := #[Operand.tmp 19], argTypes := #[33] }, type := 3, pos := "variants.go:41", after := #[{ on := 14, ground := Ground.data }, { on := 12, ground := Ground.guard }], guard := some (12, false) }) (v := ?v15z2) rfl (by kernel_rfl) (by kernel_rfl) (by kernel_rfl) (fun _ _ _ h => h) (Or.inl ⟨by rfl, ?y15z2⟩) (by assumption) ?r15z2
          case y15z2 => (intro w hSw; (try dsimp only at hSw); go_simp; first | done | with_reducible rfl)
          try simp only [Act.put, List.setIfInBounds_toArray, List.set_cons_zero, List.set_cons_succ]
          refine wpAnyH_take (i := 16) (oi := { dst := some 21, op := Op.binOp BinOp.lss 3 (Operand.tmp 20) (Operand.const (Value.int IntKind.i64 1)) 3, type := 4, pos := "variants.go:41", after := #[{ on := 15, ground := Ground.data }, { on := 12, ground := Ground.guard }], guard := some (12, false) }) (v := ?v16z2) rfl (by kernel_rfl) (by kernel_rfl) (by kernel_rfl) (fun _ _ _ h => h) (Or.inl ⟨by rfl, ?y16z2⟩) (by assumption) ?r16z2
          case y16z2 => (intro w hSw; (try dsimp only at hSw); go_simp; first | done | with_reducible rfl)
          try simp only [Act.put, List.setIfInBounds_toArray, List.set_cons_zero, List.set_cons_succ]
          refine wpAnyH_take (i := 17) (oi := { dst := some 22, op := Op.pick (Operand.tmp 17) (Operand.const (Value.bool true)) (Operand.tmp 21), type := 4, pos := "variants.go:41", after := #[{ on := 12, ground := Ground.data }, { on := 16, ground := Ground.data }], guard := none }) (v := ?v17z2) rfl (by kernel_rfl) (by kernel_rfl) (by kernel_rfl) (fun _ _ _ h => h) (Or.inl ⟨by rfl, ?y17z2⟩) (by assumption) ?r17z2
          case y17z2 => (intro w hSw; (try dsimp only at hSw); go_simp; first | done | with_reducible rfl)
          try simp only [Act.put, List.setIfInBounds_toArray, List.set_cons_zero, List.set_cons_succ]
          refine wpAnyH_take (i := 18) (oi := { dst := some 23, op := Op.move (Operand.tmp 22), type := 4, pos := "variants.go:41", after := #[{ on := 17, ground := Ground.data }, { on := 12, ground := Ground.chain }], guard := none }) (v := ?v18z2) rfl (by kernel_rfl) (by kernel_rfl) (by kernel_rfl) (fun _ _ _ h => h) (Or.inl ⟨by rfl, ?y18z2⟩) (by assumption) ?r18z2
          case y18z2 => (intro w hSw; (try dsimp only at hSw); go_simp; first | done | with_reducible rfl)
          try simp only [Act.put, List.setIfInBounds_toArray, List.set_cons_zero, List.set_cons_succ]
          refine wpAnyH_take (i := 19) (oi := { dst := some 24, op := Op.fieldAddr 42 (Operand.tmp 1) 1, type := 0, pos := "variants.go:41", after := #[{ on := 18, ground := Ground.guard }], guard := some (18, false) }) (v := ?v19z2) rfl (by kernel_rfl) (by kernel_rfl) (by kernel_rfl) (fun _ _ _ h => h) (Or.inl ⟨by rfl, ?y19z2⟩) (by assumption) ?r19z2
          case y19z2 => (intro w hSw; (try dsimp only at hSw); go_simp; first | done | with_reducible rfl)
          try simp only [Act.put, List.setIfInBounds_toArray, List.set_cons_zero, List.set_cons_succ]
          refine wpAnyH_take (i := 20) (oi := { dst := some 25, op := Op.load 33 (Operand.tmp 24), type := 33, pos := "variants.go:41", after := #[{ on := 19, ground := Ground.data }, { on := 18, ground := Ground.guard }], guard := some (18, false) }) (v := ?v20z2) rfl (by kernel_rfl) (by kernel_rfl) (by kernel_rfl) (fun _ _ _ h => h) (Or.inl ⟨by rfl, ?y20z2⟩) (by assumption) ?r20z2
          case y20z2 => (intro w hSw; (try dsimp only at hSw); go_simp; first | done | with_reducible rfl)
          try simp only [Act.put, List.setIfInBounds_toArray, List.set_cons_zero, List.set_cons_succ]
          refine wpAnyH_take (i := 21) (oi := { dst := some 26, op := Op.call { callee := Callee.builtin Builtin.len, args := #[Operand.tmp 25], argTypes := #[33] }, type := 3, pos := "variants.go:41", after := #[{ on := 20, ground := Ground.data }, { on := 18, ground := Ground.guard }], guard := some (18, false) }) (v := ?v21z2) rfl (by kernel_rfl) (by kernel_rfl) (by kernel_rfl) (fun _ _ _ h => h) (Or.inl ⟨by rfl, ?y21z2⟩) (by assumption) ?r21z2
          case y21z2 => (intro w hSw; (try dsimp only at hSw); go_simp; first | done | with_reducible rfl)
          try simp only [Act.put, List.setIfInBounds_toArray, List.set_cons_zero, List.set_cons_succ]
          refine wpAnyH_take (i := 22) (oi := { dst := some 27, op := Op.binOp BinOp.gtr 3 (Operand.tmp 26) (Operand.const (Value.int IntKind.i64 16)) 3, type := 4, pos := "variants.go:41", after := #[{ on := 21, ground := Ground.data }, { on := 18, ground := Ground.guard }], guard := some (18, false) }) (v := ?v22z2) rfl (by kernel_rfl) (by kernel_rfl) (by kernel_rfl) (fun _ _ _ h => h) (Or.inl ⟨by rfl, ?y22z2⟩) (by assumption) ?r22z2
          case y22z2 => (intro w hSw; (try dsimp only at hSw); go_simp; first | done | with_reducible rfl)
          try simp only [Act.put, List.setIfInBounds_toArray, List.set_cons_zero, List.set_cons_succ]
          refine wpAnyH_take (i := 23) (oi := { dst := some 28, op := Op.pick (Operand.tmp 23) (Operand.const (Value.bool true)) (Operand.tmp 27), type := 4, pos := "variants.go:41", after := #[{ on := 18, ground := Ground.data }, { on := 22, ground := Ground.data }], guard := none }) (v := ?v23z2) rfl (by kernel_rfl) (by kernel_rfl) (by kernel_rfl) (fun _ _ _ h => h) (Or.inl ⟨by rfl, ?y23z2⟩) (by assumption) ?r23z2
          case y23z2 => (intro w hSw; (try dsimp only at hSw); go_simp; first | done | with_reducible rfl)
          try simp only [Act.put, List.setIfInBounds_toArray, List.set_cons_zero, List.set_cons_succ]
          refine wpAnyH_done (by kernel_rfl) ?_ _
          all_goals
            have HB := box hHeld.2
            clear hHeld c0 c1
            go_wp2
            go_loopw [3] (fun i wr => AoRel n V (w.alloc (.cells #[.string n, .slice b V.length c] 42)) i wr) (fun i _ => V.length - (intOf i).toNat)
            case atStart => exact ⟨0, rfl, Nat.zero_le _, by unfold valsV; simp, HB.out⟩
            case round =>
              obtain ⟨j, rfl, hj, hval, B2⟩ := hrel
              have HVL := box hval
              clear hval
              have C2w := HC.out.next B2.out
              have c0 := C2w.1.1
              have c1 := C2w.1.2
              have hs2 := B2.out.size
              by_cases hlt : j < V.length
              · have hji : (j : Int) < (V.length : Int) := by omega
                have hji0 : (0 : Int) ≤ (j : Int) := by omega
                obtain ⟨g, off, rfl, d0⟩ := (F0.out.below B2.out) j hlt
                have hzj := hz.out j hlt
                rcases hvq : valueV n V[j] with _ | _
                · have HQ := box hvq
                  have HN : Box (validA (n, V) = false) := box (by rw [HV.out]; exact vals_no hlt (by rw [atS_is hlt, hvq]; rfl))
                  clear hvq
                  go_wp2
                  refine wp_region_held_drew (S := (fun w' : World => (w'.cell? ⟨w.heap.size, 0, none⟩ = some (.string n) ∧ w'.cell? ⟨w.heap.size, 1, none⟩ = some (.slice (some ⟨g, off, none⟩) V.length c) ∧ w'.cell? ⟨g, off + j, none⟩ = some (.string V[j])) ∧ Box (Below (w.alloc (.cells #[.string n, .slice (some ⟨g, off, none⟩) V.length c] 42)).heap.size (w.alloc (.cells #[.string n, .slice (some ⟨g, off, none⟩) V.length c] 42)) w'))) (by kernel_rfl) ⟨⟨c0, c1, d0⟩, box B2.out.drew⟩ (fun hHeld => ?_)
                  refine wpAnyH_take (i := 0) (oi := { dst := some 36, op := Op.fieldAddr 42 (Operand.tmp 1) 0, type := 0, pos := "variants.go:45", after := #[], guard := none }) (v := ?v0z3) rfl (by kernel_rfl) (by kernel_rfl) (by kernel_rfl) (fun _ _ _ h => h) (Or.inl ⟨by rfl, ?y0z3⟩) (by assumption) ?r0z3
                  case y0z3 => (intro w hSw; (try dsimp only at hSw); go_simp; first | done | with_reducible rfl)
                  try simp only [Act.put, List.setIfInBounds_toArray, List.set_cons_zero, List.set_cons_succ]
                  refine wpAnyH_take (i := 1) (oi := { dst := some 37, op := Op.load 9 (Operand.tmp 36), type := 9, pos := "variants.go:45", after := #[{ on := 0, ground := Ground.data }], guard := none }) (v := ?v1z3) rfl (by kernel_rfl) (by kernel_rfl) (by kernel_rfl) (fun _ _ _ h => h) (Or.inl ⟨by rfl, ?y1z3⟩) (by assumption) ?r1z3
                  case y1z3 => (intro w hSw; (try dsimp only at hSw); go_simp; first | done | with_reducible rfl)
                  try simp only [Act.put, List.setIfInBounds_toArray, List.set_cons_zero, List.set_cons_succ]
                  refine wpAnyH_take (i := 2) (oi := { dst := some 38, op := Op.fieldAddr 42 (Operand.tmp 1) 1, type := 0, pos := "variants.go:45", after := #[], guard := none }) (v := ?v2z3) rfl (by kernel_rfl) (by kernel_rfl) (by kernel_rfl) (fun _ _ _ h => h) (Or.inl ⟨by rfl, ?y2z3⟩) (by assumption) ?r2z3
                  case y2z3 => (intro w hSw; (try dsimp only at hSw); go_simp; first | done | with_reducible rfl)
                  try simp only [Act.put, List.setIfInBounds_toArray, List.set_cons_zero, List.set_cons_succ]
                  refine wpAnyH_take (i := 3) (oi := { dst := some 39, op := Op.load 33 (Operand.tmp 38), type := 33, pos := "variants.go:45", after := #[{ on := 2, ground := Ground.data }], guard := none }) (v := ?v3z3) rfl (by kernel_rfl) (by kernel_rfl) (by kernel_rfl) (fun _ _ _ h => h) (Or.inl ⟨by rfl, ?y3z3⟩) (by assumption) ?r3z3
                  case y3z3 => (intro w hSw; (try dsimp only at hSw); go_simp; first | done | with_reducible rfl)
                  try simp only [Act.put, List.setIfInBounds_toArray, List.set_cons_zero, List.set_cons_succ]
                  refine wpAnyH_take (i := 4) (oi := { dst := some 40, op := Op.move (Operand.tmp 3), type := 3, pos := "variants.go:45", after := #[], guard := none }) (v := ?v4z3) rfl (by kernel_rfl) (by kernel_rfl) (by kernel_rfl) (fun _ _ _ h => h) (Or.inl ⟨by rfl, ?y4z3⟩) (by assumption) ?r4z3
                  case y4z3 => (intro w hSw; (try dsimp only at hSw); go_simp; first | done | with_reducible rfl)
                  try simp only [Act.put, List.setIfInBounds_toArray, List.set_cons_zero, List.set_cons_succ]
                  refine wpAnyH_take (i := 5) (oi := { dst := some 41, op := Op.indexAddr 33 (Operand.tmp 39) (Operand.tmp 40), type := 0, pos := "variants.go:45", after := #[{ on := 3, ground := Ground.data }, { on := 4, ground := Ground.data }], guard := none }) (v := ?v5z3) rfl (by kernel_rfl) (by kernel_rfl) (by kernel_rfl) (fun _ _ _ h => h) (Or.inl ⟨by rfl, ?y5z3⟩) (by assumption) ?r5z3
                  case y5z3 => (intro w hSw; (try dsimp only at hSw); go_simp; first | done | with_reducible rfl)
                  try simp only [Act.put, List.setIfInBounds_toArray, List.set_cons_zero, List.set_cons_succ]
                  refine wpAnyH_take (i := 6) (oi := { dst := some 42, op := Op.load 9 (Operand.tmp 41), type := 9, pos := "variants.go:45", after := #[{ on := 5, ground := Ground.data }], guard := none }) (v := ?v6z3) rfl (by kernel_rfl) (by kernel_rfl) (by kernel_rfl) (fun _ _ _ h => h) (Or.inl ⟨by rfl, ?y6z3⟩) (by assumption) ?r6z3
                  case y6z3 => (intro w hSw; (try dsimp only at hSw); go_simp; first | done | with_reducible rfl)
                  try simp only [Act.put, List.setIfInBounds_toArray, List.set_cons_zero, List.set_cons_succ]
                  refine wpAnyH_ready (rs := [7]) (by kernel_rfl) (by simp) ?_
                  refine AllReadyH.cons (o := { dst := some 43, op := Op.call { callee := Callee.value (Operand.func 60), args := #[Operand.tmp 37, Operand.tmp 42], argTypes := #[9, 9] }, type := 4, pos := "variants.go:45", after := #[{ on := 1, ground := Ground.data }, { on := 6, ground := Ground.data }], guard := none }) rfl (fun K hK => ?_) AllReadyH.nil
                  go_simp
                  refine (rValue_is hn hzj HQ).mono ?_; rintro e w2 ⟨rfl, hb2⟩
                  go_wp2_with fail
                  refine hK.out _ _ ⟨⟨(hb2.cell (p := ⟨w.heap.size, 0, none⟩) (cell_lt hHeld.1.1)).trans hHeld.1.1, (hb2.cell (p := ⟨w.heap.size, 1, none⟩) (cell_lt hHeld.1.2.1)).trans hHeld.1.2.1, (hb2.cell (p := ⟨g, off + j, none⟩) (cell_lt hHeld.1.2.2)).trans hHeld.1.2.2⟩, box (hHeld.2.out.trans (hb2.mono hHeld.2.out.size))⟩ (fun hHeld => ?_)
                  clear hK K
                  try simp only [Act.put, List.setIfInBounds_toArray, List.set_cons_zero, List.set_cons_succ]
                  refine wpAnyH_take (i := 8) (oi := { dst := some 44, op := Op.unOp UnOp.not 4 (Operand.tmp 43), type := 4, pos := "variants.go:45", after := #[{ on := 7, ground := Ground.data }], guard := none }) (v := ?v8z3) rfl (by kernel_rfl) (by kernel_rfl) (by kernel_rfl) (fun _ _ _ h => h) (Or.inl ⟨by rfl, ?y8z3⟩) (by assumption) ?r8z3
                  case y8z3 => (intro w hSw; (try dsimp only at hSw); go_simp; first | done | with_reducible rfl)
                  try simp only [Act.put, List.setIfInBounds_toArray, List.set_cons_zero, List.set_cons_succ]
                  refine wpAnyH_done (by kernel_rfl) ?_ _
                  all_goals
                    go_wp2
                    go_ret
                    exact ⟨by rw [HN.out]; rfl, B0.out.trans (hHeld.2.out.mono B0.out.size)⟩
                · have HQ := box hvq
                  have hvq2 := hvq
                  clear hvq
                  go_wp2
                  refine wp_region_held_drew (S := (fun w' : World => (w'.cell? ⟨w.heap.size, 0, none⟩ = some (.string n) ∧ w'.cell? ⟨w.heap.size, 1, none⟩ = some (.slice (some ⟨g, off, none⟩) V.length c) ∧ w'.cell? ⟨g, off + j, none⟩ = some (.string V[j])) ∧ Box (Below (w.alloc (.cells #[.string n, .slice (some ⟨g, off, none⟩) V.length c] 42)).heap.size (w.alloc (.cells #[.string n, .slice (some ⟨g, off, none⟩) V.length c] 42)) w'))) (by kernel_rfl) ⟨⟨c0, c1, d0⟩, box B2.out.drew⟩ (fun hHeld => ?_)
                  refine wpAnyH_take (i := 0) (oi := { dst := some 36, op := Op.fieldAddr 42 (Operand.tmp 1) 0, type := 0, pos := "variants.go:45", after := #[], guard := none }) (v := ?v0z4) rfl (by kernel_rfl) (by kernel_rfl) (by kernel_rfl) (fun _ _ _ h => h) (Or.inl ⟨by rfl, ?y0z4⟩) (by assumption) ?r0z4
                  case y0z4 => (intro w hSw; (try dsimp only at hSw); go_simp; first | done | with_reducible rfl)
                  try simp only [Act.put, List.setIfInBounds_toArray, List.set_cons_zero, List.set_cons_succ]
                  refine wpAnyH_take (i := 1) (oi := { dst := some 37, op := Op.load 9 (Operand.tmp 36), type := 9, pos := "variants.go:45", after := #[{ on := 0, ground := Ground.data }], guard := none }) (v := ?v1z4) rfl (by kernel_rfl) (by kernel_rfl) (by kernel_rfl) (fun _ _ _ h => h) (Or.inl ⟨by rfl, ?y1z4⟩) (by assumption) ?r1z4
                  case y1z4 => (intro w hSw; (try dsimp only at hSw); go_simp; first | done | with_reducible rfl)
                  try simp only [Act.put, List.setIfInBounds_toArray, List.set_cons_zero, List.set_cons_succ]
                  refine wpAnyH_take (i := 2) (oi := { dst := some 38, op := Op.fieldAddr 42 (Operand.tmp 1) 1, type := 0, pos := "variants.go:45", after := #[], guard := none }) (v := ?v2z4) rfl (by kernel_rfl) (by kernel_rfl) (by kernel_rfl) (fun _ _ _ h => h) (Or.inl ⟨by rfl, ?y2z4⟩) (by assumption) ?r2z4
                  case y2z4 => (intro w hSw; (try dsimp only at hSw); go_simp; first | done | with_reducible rfl)
                  try simp only [Act.put, List.setIfInBounds_toArray, List.set_cons_zero, List.set_cons_succ]
                  refine wpAnyH_take (i := 3) (oi := { dst := some 39, op := Op.load 33 (Operand.tmp 38), type := 33, pos := "variants.go:45", after := #[{ on := 2, ground := Ground.data }], guard := none }) (v := ?v3z4) rfl (by kernel_rfl) (by kernel_rfl) (by kernel_rfl) (fun _ _ _ h => h) (Or.inl ⟨by rfl, ?y3z4⟩) (by assumption) ?r3z4
                  case y3z4 => (intro w hSw; (try dsimp only at hSw); go_simp; first | done | with_reducible rfl)
                  try simp only [Act.put, List.setIfInBounds_toArray, List.set_cons_zero, List.set_cons_succ]
                  refine wpAnyH_take (i := 4) (oi := { dst := some 40, op := Op.move (Operand.tmp 3), type := 3, pos := "variants.go:45", after := #[], guard := none }) (v := ?v4z4) rfl (by kernel_rfl) (by kernel_rfl) (by kernel_rfl) (fun _ _ _ h => h) (Or.inl ⟨by rfl, ?y4z4⟩) (by assumption) ?r4z4
                  case y4z4 => (intro w hSw; (try dsimp only at hSw); go_simp; first | done | with_reducible rfl)
                  try simp only [Act.put, List.setIfInBounds_toArray, List.set_cons_zero, List.set_cons_succ]
                  refine wpAnyH_take (i := 5) (oi := { dst := some 41, op := Op.indexAddr 33 (Operand.tmp 39) (Operand.tmp 40), type := 0, pos := "variants.go:45", after := #[{ on := 3, ground := Ground.data }, { on := 4, ground := Ground.data }], guard := none }) (v := ?v5z4) rfl (by kernel_rfl) (by kernel_rfl) (by kernel_rfl) (fun _ _ _ h => h) (Or.inl ⟨by rfl, ?y5z4⟩) (by assumption) ?r5z4
                  case y5z4 => (intro w hSw; (try dsimp only at hSw); go_simp; first | done | with_reducible rfl)
                  try simp only [Act.put, List.setIfInBounds_toArray, List.set_cons_zero, List.set_cons_succ]
                  refine wpAnyH_take (i := 6) (oi := { dst := some 42, op := Op.load 9 (Operand.tmp 41), type := 9, pos := "variants.go:45", after := #[{ on := 5, ground := Ground.data }], guard := none }) (v := ?v6z4) rfl (by kernel_rfl) (by kernel_rfl) (by kernel_rfl) (fun _ _ _ h => h) (Or.inl ⟨by rfl, ?y6z4⟩) (by assumption) ?r6z4
                  case y6z4 => (intro w hSw; (try dsimp only at hSw); go_simp; first | done | with_reducible rfl)
                  try simp only [Act.put, List.setIfInBounds_toArray, List.set_cons_zero, List.set_cons_succ]
                  refine wpAnyH_ready (rs := [7]) (by kernel_rfl) (by simp) ?_
                  refine AllReadyH.cons (o := { dst := some 43, op := Op.call { callee := Callee.value (Operand.func 60), args := #[Operand.tmp 37, Operand.tmp 42], argTypes := #[9, 9] }, type := 4, pos := "variants.go:45", after := #[{ on := 1, ground := Ground.data }, { on := 6, ground := Ground.data }], guard := none }) rfl (fun K hK => ?_) AllReadyH.nil
                  go_simp
                  refine (rValue_is hn hzj HQ).mono ?_; rintro e w2 ⟨rfl, hb2⟩
                  go_wp2_with fail
                  refine hK.out _ _ ⟨⟨(hb2.cell (p := ⟨w.heap.size, 0, none⟩) (cell_lt hHeld.1.1)).trans hHeld.1.1, (hb2.cell (p := ⟨w.heap.size, 1, none⟩) (cell_lt hHeld.1.2.1)).trans hHeld.1.2.1, (hb2.cell (p := ⟨g, off + j, none⟩) (cell_lt hHeld.1.2.2)).trans hHeld.1.2.2⟩, box (hHeld.2.out.trans (hb2.mono hHeld.2.out.size))⟩ (fun hHeld => ?_)
                  clear hK K
                  try simp only [Act.put, List.setIfInBounds_toArray, List.set_cons_zero, List.set_cons_succ]
                  refine wpAnyH_take (i := 8) (oi := { dst := some 44, op := Op.unOp UnOp.not 4 (Operand.tmp 43), type := 4, pos := "variants.go:45", after := #[{ on := 7, ground := Ground.data }], guard := none }) (v := ?v8z4) rfl (by kernel_rfl) (by kernel_rfl) (by kernel_rfl) (fun _ _ _ h => h) (Or.inl ⟨by rfl, ?y8z4⟩) (by assumption) ?r8z4
                  case y8z4 => (intro w hSw; (try dsimp only at hSw); go_simp; first | done | with_reducible rfl)
                  try simp only [Act.put, List.setIfInBounds_toArray, List.set_cons_zero, List.set_cons_succ]
                  refine wpAnyH_done (by kernel_rfl) ?_ _
                  all_goals
                    have HB3 := box hHeld.2
                    have HQ2 := box hvq2
                    clear hHeld hvq2 c0 c1 d0 C2w
                    go_wp2
                    go_loopw [4] (fun i wi => AiRel n V j (w.alloc (.cells #[.string n, .slice (some ⟨g, off, none⟩) V.length c] 42)) i wi) (fun i _ => j - (intOf i).toNat)
                    case atStart => exact ⟨0, rfl, Nat.zero_le _, by unfold newV; simp, HB3.out⟩
                    case round =>
                      obtain ⟨m, rfl, hm, hnew, B4⟩ := hrel
                      have HNW := box hnew
                      clear hnew
                      have C2w := HC.out.next B4.out
                      have c0 := C2w.1.1
                      have c1 := C2w.1.2
                      have hs4 := B4.out.size
                      clear C2w
                      by_cases hmj : m < j
                      · have hmi : (m : Int) < (j : Int) := by omega
                        have hml : (m : Int) < (V.length : Int) := by omega
                        have hml0 : (0 : Int) ≤ (m : Int) := by omega
                        have hmlt : m < V.length := by omega
                        obtain ⟨g', off', e, d0⟩ := (F0.out.below B4.out) j hlt
                        cases e
                        obtain ⟨g', off', e, d1⟩ := (F0.out.below B4.out) m hmlt
                        cases e
                        have hzm := hz.out m hmlt
                        rcases hsq : sameV n V[j] V[m] with _ | _
                        · have HS := box hsq
                          have HN2 : Box (newV n V j (m + 1) = true) := box (by rw [newV_more, HNW.out, atS_is hlt, atS_is hmlt, hsq]; rfl)
                          clear hsq
                          go_wp2
                          refine wp_region_held_drew (S := (fun w' : World => (w'.cell? ⟨w.heap.size, 0, none⟩ = some (.string n) ∧ w'.cell? ⟨w.heap.size, 1, none⟩ = some (.slice (some ⟨g, off, none⟩) V.length c) ∧ w'.cell? ⟨g, off + j, none⟩ = some (.string V[j]) ∧ w'.cell? ⟨g, off + m, none⟩ = some (.string V[m])) ∧ Box (Below (w.alloc (.cells #[.string n, .slice (some ⟨g, off, none⟩) V.length c] 42)).heap.size (w.alloc (.cells #[.string n, .slice (some ⟨g, off, none⟩) V.length c] 42)) w'))) (by kernel_rfl) ⟨⟨c0, c1, d0, d1⟩, box B4.out.drew⟩ (fun hHeld => ?_)
                          refine wpAnyH_take (i := 0) (oi := { dst := some 50, op := Op.fieldAddr 42 (Operand.tmp 1) 0, type := 0, pos := "variants.go:49", after := #[], guard := none }) (v := ?v0z5) rfl (by kernel_rfl) (by kernel_rfl) (by kernel_rfl) (fun _ _ _ h => h) (Or.inl ⟨by rfl, ?y0z5⟩) (by assumption) ?r0z5
                          case y0z5 => (intro w hSw; (try dsimp only at hSw); go_simp; first | done | with_reducible rfl)
                          try simp only [Act.put, List.setIfInBounds_toArray, List.set_cons_zero, List.set_cons_succ]
                          refine wpAnyH_take (i := 1) (oi := { dst := some 51, op := Op.load 9 (Operand.tmp 50), type := 9, pos := "variants.go:49", after := #[{ on := 0, ground := Ground.data }], guard := none }) (v := ?v1z5) rfl (by kernel_rfl) (by kernel_rfl) (by kernel_rfl) (fun _ _ _ h => h) (Or.inl ⟨by rfl, ?y1z5⟩) (by assumption) ?r1z5
                          case y1z5 => (intro w hSw; (try dsimp only at hSw); go_simp; first | done | with_reducible rfl)
                          try simp only [Act.put, List.setIfInBounds_toArray, List.set_cons_zero, List.set_cons_succ]
                          refine wpAnyH_take (i := 2) (oi := { dst := some 52, op := Op.fieldAddr 42 (Operand.tmp 1) 1, type := 0, pos := "variants.go:49", after := #[], guard := none }) (v := ?v2z5) rfl (by kernel_rfl) (by kernel_rfl) (by kernel_rfl) (fun _ _ _ h => h) (Or.inl ⟨by rfl, ?y2z5⟩) (by assumption) ?r2z5
                          case y2z5 => (intro w hSw; (try dsimp only at hSw); go_simp; first | done | with_reducible rfl)
                          try simp only [Act.put, List.setIfInBounds_toArray, List.set_cons_zero, List.set_cons_succ]
                          refine wpAnyH_take (i := 3) (oi := { dst := some 53, op := Op.load 33 (Operand.tmp 52), type := 33, pos := "variants.go:49", after := #[{ on := 2, ground := Ground.data }], guard := none }) (v := ?v3z5) rfl (by kernel_rfl) (by kernel_rfl) (by kernel_rfl) (fun _ _ _ h => h) (Or.inl ⟨by rfl, ?y3z5⟩) (by assumption) ?r3z5
                          case y3z5 => (intro w hSw; (try dsimp only at hSw); go_simp; first | done | with_reducible rfl)
                          try simp only [Act.put, List.setIfInBounds_toArray, List.set_cons_zero, List.set_cons_succ]
                          refine wpAnyH_take (i := 4) (oi := { dst := some 54, op := Op.move (Operand.tmp 3), type := 3, pos := "variants.go:49", after := #[], guard := none }) (v := ?v4z5) rfl (by kernel_rfl) (by kernel_rfl) (by kernel_rfl) (fun _ _ _ h => h) (Or.inl ⟨by rfl, ?y4z5⟩) (by assumption) ?r4z5
                          case y4z5 => (intro w hSw; (try dsimp only at hSw); go_simp; first | done | with_reducible rfl)
                          try simp only [Act.put, List.setIfInBounds_toArray, List.set_cons_zero, List.set_cons_succ]
                          refine wpAnyH_take (i := 5) (oi := { dst := some 55, op := Op.indexAddr 33 (Operand.tmp 53) (Operand.tmp 54), type := 0, pos := "variants.go:49", after := #[{ on := 3, ground := Ground.data }, { on := 4, ground := Ground.data }], guard := none }) (v := ?v5z5) rfl (by kernel_rfl) (by kernel_rfl) (by kernel_rfl) (fun _ _ _ h => h) (Or.inl ⟨by rfl, ?y5z5⟩) (by assumption) ?r5z5
                          case y5z5 => (intro w hSw; (try dsimp only at hSw); go_simp; first | done | with_reducible rfl)
                          try simp only [Act.put, List.setIfInBounds_toArray, List.set_cons_zero, List.set_cons_succ]
                          refine wpAnyH_take (i := 6) (oi := { dst := some 56, op := Op.load 9 (Operand.tmp 55), type := 9, pos := "variants.go:49", after := #[{ on := 5, ground := Ground.data }], guard := none }) (v := ?v6z5) rfl (by kernel_rfl) (by kernel_rfl) (by kernel_rfl) (fun _ _ _ h => h) (Or.inl ⟨by rfl, ?y6z5⟩) (by assumption) ?r6z5
                          case y6z5 => (intro w hSw; (try dsimp only at hSw); go_simp; first | done | with_reducible rfl)
                          try simp only [Act.put, List.setIfInBounds_toArray, List.set_cons_zero, List.set_cons_succ]
                          refine wpAnyH_take (i := 7) (oi := { dst := some 57, op := Op.fieldAddr 42 (Operand.tmp 1) 1, type := 0, pos := "variants.go:49", after := #[], guard := none }) (v := ?v7z5) rfl (by kernel_rfl) (by kernel_rfl) (by kernel_rfl) (fun _ _ _ h => h) (Or.inl ⟨by rfl, ?y7z5⟩) (by assumption) ?r7z5
                          case y7z5 => (intro w hSw; (try dsimp only at hSw); go_simp; first | done | with_reducible rfl)
                          try simp only [Act.put, List.setIfInBounds_toArray, List.set_cons_zero, List.set_cons_succ]
                          refine wpAnyH_take (i := 8) (oi := { dst := some 58, op := Op.load 33 (Operand.tmp 57), type := 33, pos := "variants.go:49", after := #[{ on := 7, ground := Ground.data }], guard := none }) (v := ?v8z5) rfl (by kernel_rfl) (by kernel_rfl) (by kernel_rfl) (fun _ _ _ h => h) (Or.inl ⟨by rfl, ?y8z5⟩) (by assumption) ?r8z5
                          case y8z5 => (intro w hSw; (try dsimp only at hSw); go_simp; first | done | with_reducible rfl)
                          try simp only [Act.put, List.setIfInBounds_toArray, List.set_cons_zero, List.set_cons_succ]
                          refine wpAnyH_take (i := 9) (oi := { dst := some 59, op := Op.move (Operand.tmp 4), type := 3, pos := "variants.go:49", after := #[], guard := none }) (v := ?v9z5) rfl (by kernel_rfl) (by kernel_rfl) (by kernel_rfl) (fun _ _ _ h => h) (Or.inl ⟨by rfl, ?y9z5⟩) (by assumption) ?r9z5
                          case y9z5 => (intro w hSw; (try dsimp only at hSw); go_simp; first | done | with_reducible rfl)
                          try simp only [Act.put, List.setIfInBounds_toArray, List.set_cons_zero, List.set_cons_succ]
                          refine wpAnyH_take (i := 10) (oi := { dst := some 60, op := Op.indexAddr 33 (Operand.tmp 58) (Operand.tmp 59), type := 0, pos := "variants.go:49", after := #[{ on := 8, ground := Ground.data }, { on := 9, ground := Ground.data }], guard := none }) (v := ?v10z5) rfl (by kernel_rfl) (by kernel_rfl) (by kernel_rfl) (fun _ _ _ h => h) (Or.inl ⟨by rfl, ?y10z5⟩) (by assumption) ?r10z5
                          case y10z5 => (intro w hSw; (try dsimp only at hSw); go_simp; first | done | with_reducible rfl)
                          try simp only [Act.put, List.setIfInBounds_toArray, List.set_cons_zero, List.set_cons_succ]
                          refine wpAnyH_take (i := 11) (oi := { dst := some 61, op := Op.load 9 (Operand.tmp 60), type := 9, pos := "variants.go:49", after := #[{ on := 10, ground := Ground.data }], guard := none }) (v := ?v11z5) rfl (by kernel_rfl) (by kernel_rfl) (by kernel_rfl) (fun _ _ _ h => h) (Or.inl ⟨by rfl, ?y11z5⟩) (by assumption) ?r11z5
                          case y11z5 => (intro w hSw; (try dsimp only at hSw); go_simp; first | done | with_reducible rfl)
                          try simp only [Act.put, List.setIfInBounds_toArray, List.set_cons_zero, List.set_cons_succ]
                          refine wpAnyH_ready (rs := [12]) (by kernel_rfl) (by simp) ?_
                          refine AllReadyH.cons (o := { dst := some 62, op := Op.call { callee := Callee.value (Operand.func 26), args := #[Operand.tmp 51, Operand.tmp 56, Operand.tmp 61], argTypes := #[9, 9, 9] }, type := 4, pos := "variants.go:49", after := #[{ on := 1, ground := Ground.data }, { on := 6, ground := Ground.data }, { on := 11, ground := Ground.data }], guard := none }) rfl (fun K hK => ?_) AllReadyH.nil
                          go_simp
                          refine (rSame15_is hn hzj hzm HS).mono ?_; rintro e w2 ⟨rfl, hb2⟩
                          go_wp2_with fail
                          refine hK.out _ _ ⟨⟨(hb2.cell (p := ⟨w.heap.size, 0, none⟩) (cell_lt hHeld.1.1)).trans hHeld.1.1, (hb2.cell (p := ⟨w.heap.size, 1, none⟩) (cell_lt hHeld.1.2.1)).trans hHeld.1.2.1, (hb2.cell (p := ⟨g, off + j, none⟩) (cell_lt hHeld.1.2.2.1)).trans hHeld.1.2.2.1, (hb2.cell (p := ⟨g, off + m, none⟩) (cell_lt hHeld.1.2.2.2)).trans hHeld.1.2.2.2⟩, box (hHeld.2.out.trans (hb2.mono hHeld.2.out.size))⟩ (fun hHeld => ?_)
                          clear hK K
                          try simp only [Act.put, List.setIfInBounds_toArray, List.set_cons_zero, List.set_cons_succ]
                          refine wpAnyH_done (by kernel_rfl) ?_ _
                          all_goals
                            go_wp2
                            go_roundw
                            case rel => exact ⟨m + 1, by go_num, by omega, HN2.out, hHeld.2⟩
                            case measure => simp [intOf]; omega
                        · have HS := box hsq
                          have HN2 : Box (validA (n, V) = false) := box (by
                            rw [HV.out]
                            exact vals_no hlt (by rw [new_no hmj (by rw [atS_is hlt, atS_is hmlt, hsq]), Bool.and_false]))
                          clear hsq
                          go_wp2
                          refine wp_region_held_drew (S := (fun w' : World => (w'.cell? ⟨w.heap.size, 0, none⟩ = some (.string n) ∧ w'.cell? ⟨w.heap.size, 1, none⟩ = some (.slice (some ⟨g, off, none⟩) V.length c) ∧ w'.cell? ⟨g, off + j, none⟩ = some (.string V[j]) ∧ w'.cell? ⟨g, off + m, none⟩ = some (.string V[m])) ∧ Box (Below (w.alloc (.cells #[.string n, .slice (some ⟨g, off, none⟩) V.length c] 42)).heap.size (w.alloc (.cells #[.string n, .slice (some ⟨g, off, none⟩) V.length c] 42)) w'))) (by kernel_rfl) ⟨⟨c0, c1, d0, d1⟩, box B4.out.drew⟩ (fun hHeld => ?_)
                          refine wpAnyH_take (i := 0) (oi := { dst := some 50, op := Op.fieldAddr 42 (Operand.tmp 1) 0, type := 0, pos := "variants.go:49", after := #[], guard := none }) (v := ?v0z6) rfl (by kernel_rfl) (by kernel_rfl) (by kernel_rfl) (fun _ _ _ h => h) (Or.inl ⟨by rfl, ?y0z6⟩) (by assumption) ?r0z6
                          case y0z6 => (intro w hSw; (try dsimp only at hSw); go_simp; first | done | with_reducible rfl)
                          try simp only [Act.put, List.setIfInBounds_toArray, List.set_cons_zero, List.set_cons_succ]
                          refine wpAnyH_take (i := 1) (oi := { dst := some 51, op := Op.load 9 (Operand.tmp 50), type := 9, pos := "variants.go:49", after := #[{ on := 0, ground := Ground.data }], guard := none }) (v := ?v1z6) rfl (by kernel_rfl) (by kernel_rfl) (by kernel_rfl) (fun _ _ _ h => h) (Or.inl ⟨by rfl, ?y1z6⟩) (by assumption) ?r1z6
                          case y1z6 => (intro w hSw; (try dsimp only at hSw); go_simp; first | done | with_reducible rfl)
                          try simp only [Act.put, List.setIfInBounds_toArray, List.set_cons_zero, List.set_cons_succ]
                          refine wpAnyH_take (i := 2) (oi := { dst := some 52, op := Op.fieldAddr 42 (Operand.tmp 1) 1, type := 0, pos := "variants.go:49", after := #[], guard := none }) (v := ?v2z6) rfl (by kernel_rfl) (by kernel_rfl) (by kernel_rfl) (fun _ _ _ h => h) (Or.inl ⟨by rfl, ?y2z6⟩) (by assumption) ?r2z6
                          case y2z6 => (intro w hSw; (try dsimp only at hSw); go_simp; first | done | with_reducible rfl)
                          try simp only [Act.put, List.setIfInBounds_toArray, List.set_cons_zero, List.set_cons_succ]
                          refine wpAnyH_take (i := 3) (oi := { dst := some 53, op := Op.load 33 (Operand.tmp 52), type := 33, pos := "variants.go:49", after := #[{ on := 2, ground := Ground.data }], guard := none }) (v := ?v3z6) rfl (by kernel_rfl) (by kernel_rfl) (by kernel_rfl) (fun _ _ _ h => h) (Or.inl ⟨by rfl, ?y3z6⟩) (by assumption) ?r3z6
                          case y3z6 => (intro w hSw; (try dsimp only at hSw); go_simp; first | done | with_reducible rfl)
                          try simp only [Act.put, List.setIfInBounds_toArray, List.set_cons_zero, List.set_cons_succ]
                          refine wpAnyH_take (i := 4) (oi := { dst := some 54, op := Op.move (Operand.tmp 3), type := 3, pos := "variants.go:49", after := #[], guard := none }) (v := ?v4z6) rfl (by kernel_rfl) (by kernel_rfl) (by kernel_rfl) (fun _ _ _ h => h) (Or.inl ⟨by rfl, ?y4z6⟩) (by assumption) ?r4z6
                          case y4z6 => (intro w hSw; (try dsimp only at hSw); go_simp; first | done | with_reducible rfl)
                          try simp only [Act.put, List.setIfInBounds_toArray, List.set_cons_zero, List.set_cons_succ]
                          refine wpAnyH_take (i := 5) (oi := { dst := some 55, op := Op.indexAddr 33 (Operand.tmp 53) (Operand.tmp 54), type := 0, pos := "variants.go:49", after := #[{ on := 3, ground := Ground.data }, { on := 4, ground := Ground.data }], guard := none }) (v := ?v5z6) rfl (by kernel_rfl) (by kernel_rfl) (by kernel_rfl) (fun _ _ _ h => h) (Or.inl ⟨by rfl, ?y5z6⟩) (by assumption) ?r5z6
                          case y5z6 => (intro w hSw; (try dsimp only at hSw); go_simp; first | done | with_reducible rfl)
                          try simp only [Act.put, List.setIfInBounds_toArray, List.set_cons_zero, List.set_cons_succ]
                          refine wpAnyH_take (i := 6) (oi := { dst := some 56, op := Op.load 9 (Operand.tmp 55), type := 9, pos := "variants.go:49", after := #[{ on := 5, ground := Ground.data }], guard := none }) (v := ?v6z6) rfl (by kernel_rfl) (by kernel_rfl) (by kernel_rfl) (fun _ _ _ h => h) (Or.inl ⟨by rfl, ?y6z6⟩) (by assumption) ?r6z6
                          case y6z6 => (intro w hSw; (try dsimp only at hSw); go_simp; first | done | with_reducible rfl)
                          try simp only [Act.put, List.setIfInBounds_toArray, List.set_cons_zero, List.set_cons_succ]
                          refine wpAnyH_take (i := 7) (oi := { dst := some 57, op := Op.fieldAddr 42 (Operand.tmp 1) 1, type := 0, pos := "variants.go:49", after := #[], guard := none }) (v := ?v7z6) rfl (by kernel_rfl) (by kernel_rfl) (by kernel_rfl) (fun _ _ _ h => h) (Or.inl ⟨by rfl, ?y7z6⟩) (by assumption) ?r7z6
                          case y7z6 => (intro w hSw; (try dsimp only at hSw); go_simp; first | done | with_reducible rfl)
                          try simp only [Act.put, List.setIfInBounds_toArray, List.set_cons_zero, List.set_cons_succ]
                          refine wpAnyH_take (i := 8) (oi := { dst := some 58, op := Op.load 33 (Operand.tmp 57), type := 33, pos := "variants.go:49", after := #[{ on := 7, ground := Ground.data }], guard := none }) (v := ?v8z6) rfl (by kernel_rfl) (by kernel_rfl) (by kernel_rfl) (fun _ _ _ h => h) (Or.inl ⟨by rfl, ?y8z6⟩) (by assumption) ?r8z6
                          case y8z6 => (intro w hSw; (try dsimp only at hSw); go_simp; first | done | with_reducible rfl)
                          try simp only [Act.put, List.setIfInBounds_toArray, List.set_cons_zero, List.set_cons_succ]
                          refine wpAnyH_take (i := 9) (oi := { dst := some 59, op := Op.move (Operand.tmp 4), type := 3, pos := "variants.go:49", after := #[], guard := none }) (v := ?v9z6) rfl (by kernel_rfl) (by kernel_rfl) (by kernel_rfl) (fun _ _ _ h => h) (Or.inl ⟨by rfl, ?y9z6⟩) (by assumption) ?r9z6
                          case y9z6 => (intro w hSw; (try dsimp only at hSw); go_simp; first | done | with_reducible rfl)
                          try simp only [Act.put, List.setIfInBounds_toArray, List.set_cons_zero, List.set_cons_succ]
                          refine wpAnyH_take (i := 10) (oi := { dst := some 60, op := Op.indexAddr 33 (Operand.tmp 58) (Operand.tmp 59), type := 0, pos := "variants.go:49", after := #[{ on := 8, ground := Ground.data }, { on := 9, ground := Ground.data }], guard := none }) (v := ?v10z6) rfl (by kernel_rfl) (by kernel_rfl) (by kernel_rfl) (fun _ _ _ h => h) (Or.inl ⟨by rfl, ?y10z6⟩) (by assumption) ?r10z6
                          case y10z6 => (intro w hSw; (try dsimp only at hSw); go_simp; first | done | with_reducible rfl)
                          try simp only [Act.put, List.setIfInBounds_toArray, List.set_cons_zero, List.set_cons_succ]
                          refine wpAnyH_take (i := 11) (oi := { dst := some 61, op := Op.load 9 (Operand.tmp 60), type := 9, pos := "variants.go:49", after := #[{ on := 10, ground := Ground.data }], guard := none }) (v := ?v11z6) rfl (by kernel_rfl) (by kernel_rfl) (by kernel_rfl) (fun _ _ _ h => h) (Or.inl ⟨by rfl, ?y11z6⟩) (by assumption) ?r11z6
                          case y11z6 => (intro w hSw; (try dsimp only at hSw); go_simp; first | done | with_reducible rfl)
                          try simp only [Act.put, List.setIfInBounds_toArray, List.set_cons_zero, List.set_cons_succ]
                          refine wpAnyH_ready (rs := [12]) (by kernel_rfl) (by simp) ?_
                          refine AllReadyH.cons (o := { dst := some 62, op := Op.call { callee := Callee.value (Operand.func 26), args := #[Operand.tmp 51, Operand.tmp 56, Operand.tmp 61], argTypes := #[9, 9, 9] }, type := 4, pos := "variants.go:49", after := #[{ on := 1, ground := Ground.data }, { on := 6, ground := Ground.data }, { on := 11, ground := Ground.data }], guard := none }) rfl (fun K hK => ?_) AllReadyH.nil
                          go_simp
                          refine (rSame15_is hn hzj hzm HS).mono ?_; rintro e w2 ⟨rfl, hb2⟩
                          go_wp2_with fail
                          refine hK.out _ _ ⟨⟨(hb2.cell (p := ⟨w.heap.size, 0, none⟩) (cell_lt hHeld.1.1)).trans hHeld.1.1, (hb2.cell (p := ⟨w.heap.size, 1, none⟩) (cell_lt hHeld.1.2.1)).trans hHeld.1.2.1, (hb2.cell (p := ⟨g, off + j, none⟩) (cell_lt hHeld.1.2.2.1)).trans hHeld.1.2.2.1, (hb2.cell (p := ⟨g, off + m, none⟩) (cell_lt hHeld.1.2.2.2)).trans hHeld.1.2.2.2⟩, box (hHeld.2.out.trans (hb2.mono hHeld.2.out.size))⟩ (fun hHeld => ?_)
                          clear hK K
                          try simp only [Act.put, List.setIfInBounds_toArray, List.set_cons_zero, List.set_cons_succ]
                          refine wpAnyH_done (by kernel_rfl) ?_ _
                          all_goals
                            go_wp2
                            go_ret
                            exact ⟨by rw [HN2.out]; rfl, B0.out.trans (hHeld.2.out.mono B0.out.size)⟩
                      · have hmi : ¬ (m : Int) < (j : Int) := by omega
                        have hmj2 : m = j := by omega
                        have HVN : Box (valsV n V (j + 1) = true) := box (by
                          have := HNW.out
                          rw [hmj2] at this
                          rw [valsV_more, HVL.out, atS_is hlt, HQ2.out, this]; rfl)
                        clear hmj2
                        go_wp2
                        go_roundw
                        case rel => exact ⟨j + 1, by go_num, by omega, HVN.out, B4⟩
                        case measure => simp [intOf]; omega
              · have hji : ¬ (j : Int) < (V.length : Int) := by omega
                have hjl : j = V.length := by omega
                have HN : Box (validA (n, V) = true) := box (by rw [HV.out, ← hjl]; exact HVL.out)
                clear hjl
                go_wp2
                go_ret
                exact ⟨by rw [HN.out]; rfl, B0.out.trans (B2.out.mono B0.out.size)⟩
        · have i2 : decide ((16 : Int) < (V.length : Int)) = true := decide_eq_true (by omega)
          have HV := box (head_no4 (n := n) h2)
          clear ht hlx hlo
          go_enter Tryz.func34, Tryz.ntmps34
          go_wp2
          refine wp_region_held_drew (S := (fun w' : World => (w'.cell? ⟨w.heap.size, 0, none⟩ = some (.string n) ∧ w'.cell? ⟨w.heap.size, 1, none⟩ = some (.slice b V.length c)) ∧ Box (Below (w.alloc (.cells #[.string n, .slice b V.length c] 42)).heap.size (w.alloc (.cells #[.string n, .slice b V.length c] 42)) w'))) (by kernel_rfl) ⟨⟨c0, c1⟩, box (Below.refl _ _).drew⟩ (fun hHeld => ?_)
          refine wpAnyH_take (i := 0) (oi := { dst := some 5, op := Op.fieldAddr 42 (Operand.tmp 1) 0, type := 0, pos := "variants.go:41", after := #[], guard := none }) (v := ?v0z7) rfl (by kernel_rfl) (by kernel_rfl) (by kernel_rfl) (fun _ _ _ h => h) (Or.inl ⟨by rfl, ?y0z7⟩) (by assumption) ?r0z7
          case y0z7 => (intro w hSw; (try dsimp only at hSw); go_simp; first | done | with_reducible rfl)
          try simp only [Act.put, List.setIfInBounds_toArray, List.set_cons_zero, List.set_cons_succ]
          refine wpAnyH_take (i := 1) (oi := { dst := some 6, op := Op.load 9 (Operand.tmp 5), type := 9, pos := "variants.go:41", after := #[{ on := 0, ground := Ground.data }], guard := none }) (v := ?v1z7) rfl (by kernel_rfl) (by kernel_rfl) (by kernel_rfl) (fun _ _ _ h => h) (Or.inl ⟨by rfl, ?y1z7⟩) (by assumption) ?r1z7
          case y1z7 => (intro w hSw; (try dsimp only at hSw); go_simp; first | done | with_reducible rfl)
          try simp only [Act.put, List.setIfInBounds_toArray, List.set_cons_zero, List.set_cons_succ]
          refine wpAnyH_ready (rs := [2]) (by kernel_rfl) (by simp) ?_
          refine AllReadyH.cons (o := { dst := some 7, op := Op.call { callee := Callee.value (Operand.func 58), args := #[Operand.tmp 6], argTypes := #[9] }, type := 4, pos := "variants.go:41", after := #[{ on := 1, ground := Ground.data }], guard := none }) rfl (fun K hK => ?_) AllReadyH.nil
          go_simp
          refine (rTok13_is HNM.out HT).mono ?_; rintro e w2 ⟨rfl, rfl⟩
          go_wp2_with fail
          refine hK.out _ _ ⟨hHeld.1, hHeld.2⟩ (fun hHeld => ?_)
          clear hK K
          try simp only [Act.put, List.setIfInBounds_toArray, List.set_cons_zero, List.set_cons_succ]
          refine wpAnyH_take (i := 3) (oi := { dst := some 8, op := Op.unOp UnOp.not 4 (Operand.tmp 7), type := 4, pos := "variants.go:41", after := #[{ on := 2, ground := Ground.data }], guard := none }) (v := ?v3z7) rfl (by kernel_rfl) (by kernel_rfl) (by kernel_rfl) (fun _ _ _ h => h) (Or.inl ⟨by rfl, ?y3z7⟩) (by assumption) ?r3z7
          case y3z7 => (intro w hSw; (try dsimp only at hSw); go_simp; first | done | with_reducible rfl)
          try simp only [Act.put, List.setIfInBounds_toArray, List.set_cons_zero, List.set_cons_succ]
          refine wpAnyH_take (i := 4) (oi := { dst := some 9, op := Op.move (Operand.tmp 8), type := 4, pos := "variants.go:41", after := #[{ on := 3, ground := Ground.data }, { on := 2, ground := Ground.chain }], guard := none }) (v := ?v4z7) rfl (by kernel_rfl) (by kernel_rfl) (by kernel_rfl) (fun _ _ _ h => h) (Or.inl ⟨by rfl, ?y4z7⟩) (by assumption) ?r4z7
          case y4z7 => (intro w hSw; (try dsimp only at hSw); go_simp; first | done | with_reducible rfl)
          try simp only [Act.put, List.setIfInBounds_toArray, List.set_cons_zero, List.set_cons_succ]
          refine wpAnyH_take (i := 5) (oi := { dst := some 10, op := Op.fieldAddr 42 (Operand.tmp 1) 0, type := 0, pos := "variants.go:41", after := #[{ on := 4, ground := Ground.guard }], guard := some (4, false) }) (v := ?v5z7) rfl (by kernel_rfl) (by kernel_rfl) (by kernel_rfl) (fun _ _ _ h => h) (Or.inl ⟨by rfl, ?y5z7⟩) (by assumption) ?r5z7
          case y5z7 => (intro w hSw; (try dsimp only at hSw); go_simp; first | done | with_reducible rfl)
          try simp only [Act.put, List.setIfInBounds_toArray, List.set_cons_zero, List.set_cons_succ]
          refine wpAnyH_take (i := 6) (oi := { dst := some 11, op := Op.load 9 (Operand.tmp 10), type := 9, pos := "variants.go:41", after := #[{ on := 5, ground := Ground.data }, { on := 4, ground := Ground.guard }], guard := some (4, false) }) (v := ?v6z7) rfl (by kernel_rfl) (by kernel_rfl) (by kernel_rfl) (fun _ _ _ h => h) (Or.inl ⟨by rfl, ?y6z7⟩) (by assumption) ?r6z7
          case y6z7 => (intro w hSw; (try dsimp only at hSw); go_simp; first | done | with_reducible rfl)
          try simp only [Act.put, List.setIfInBounds_toArray, List.set_cons_zero, List.set_cons_succ]
          refine wpAnyH_take (i := 8) (oi := { dst := some 13, op := Op.fieldAddr 42 (Operand.tmp 1) 0, type := 0, pos := "variants.go:41", after := #[{ on := 4, ground := Ground.guard }], guard := some (4, false) }) (v := ?v8z7) rfl (by kernel_rfl) (by kernel_rfl) (by kernel_rfl) (fun _ _ _ h => h) (Or.inl ⟨by rfl, ?y8z7⟩) (by assumption) ?r8z7
          case y8z7 => (intro w hSw; (try dsimp only at hSw); go_simp; first | done | with_reducible rfl)
          try simp only [Act.put, List.setIfInBounds_toArray, List.set_cons_zero, List.set_cons_succ]
          refine wpAnyH_take (i := 9) (oi := { dst := some 14, op := Op.load 9 (Operand.tmp 13), type := 9, pos := "variants.go:41", after := #[{ on := 8, ground := Ground.data }, { on := 4, ground := Ground.guard }], guard := some (4, false) }) (v := ?v9z7) rfl (by kernel_rfl) (by kernel_rfl) (by kernel_rfl) (fun _ _ _ h => h) (Or.inl ⟨by rfl, ?y9z7⟩) (by assumption) ?r9z7
          case y9z7 => (intro w hSw; (try dsimp only at hSw); go_simp; first | done | with_reducible rfl)
          try simp only [Act.put, List.setIfInBounds_toArray, List.set_cons_zero, List.set_cons_succ]
          refine wpAnyH_ready (rs := [7]) (by kernel_rfl) (by simp) ?_
          refine AllReadyH.cons (o := { dst := some 12, op := Op.call { callee := Callee.value (Operand.func 59), args := #[Operand.tmp 11], argTypes := #[9] }, type := 9, pos := "variants.go:41", after := #[{ on := 6, ground := Ground.data }, { on := 4, ground := Ground.chain }, { on := 4, ground := Ground.guard }], guard := some (4, false) }) rfl (fun K hK => ?_) AllReadyH.nil
          go_simp
          refine (rLow12_is hn4 HL).mono ?_; rintro e w2 ⟨rfl, hb2⟩
          go_wp2_with fail
          refine hK.out _ _ ⟨⟨(hb2.cell (p := ⟨w.heap.size, 0, none⟩) (cell_lt hHeld.1.1)).trans hHeld.1.1, (hb2.cell (p := ⟨w.heap.size, 1, none⟩) (cell_lt hHeld.1.2)).trans hHeld.1.2⟩, box (hHeld.2.out.trans (hb2.mono hHeld.2.out.size))⟩ (fun hHeld => ?_)
          clear hK K
          try simp only [Act.put, List.setIfInBounds_toArray, List.set_cons_zero, List.set_cons_succ]
          refine wpAnyH_take (i := 10) (oi := { dst := some 15, op := Op.binOp BinOp.neq 9 (Operand.tmp 12) (Operand.tmp 14) 9, type := 4, pos := "variants.go:41", after := #[{ on := 7, ground := Ground.data }, { on := 9, ground := Ground.data }, { on := 4, ground := Ground.guard }], guard := some (4, false) }) (v := ?v10z7) rfl (by kernel_rfl) (by kernel_rfl) (by kernel_rfl) (fun _ _ _ h => h) (Or.inl ⟨by rfl, ?y10z7⟩) (by assumption) ?r10z7
          case y10z7 => (intro w hSw; (try dsimp only at hSw); go_simp; first | done | with_reducible rfl)
          try simp only [Act.put, List.setIfInBounds_toArray, List.set_cons_zero, List.set_cons_succ]
          refine wpAnyH_take (i := 11) (oi := { dst := some 16, op := Op.pick (Operand.tmp 9) (Operand.const (Value.bool true)) (Operand.tmp 15), type := 4, pos := "variants.go:41", after := #[{ on := 4, ground := Ground.data }, { on := 10, ground := Ground.data }], guard := none }) (v := ?v11z7) rfl (by kernel_rfl) (by kernel_rfl) (by kernel_rfl) (fun _ _ _ h => h) (Or.inl ⟨by rfl, ?y11z7⟩) (by assumption) ?r11z7
          case y11z7 => (intro w hSw; (try dsimp only at hSw); go_simp; first | done | with_reducible rfl)
          try simp only [Act.put, List.setIfInBounds_toArray, List.set_cons_zero, List.set_cons_succ]
          refine wpAnyH_take (i := 12) (oi := { dst := some 17, op := Op.move (Operand.tmp 16), type := 4, pos := "variants.go:41", after := #[{ on := 11, ground := Ground.data }, { on := 7, ground := Ground.chain }], guard := none }) (v := ?v12z7) rfl (by kernel_rfl) (by kernel_rfl) (by kernel_rfl) (fun _ _ _ h => h) (Or.inl ⟨by rfl, ?y12z7⟩) (by assumption) ?r12z7
          case y12z7 => (intro w hSw; (try dsimp only at hSw); go_simp; first | done | with_reducible rfl)
          try simp only [Act.put, List.setIfInBounds_toArray, List.set_cons_zero, List.set_cons_succ]
          refine wpAnyH_take (i := 13) (oi := { dst := some 18, op := Op.fieldAddr 42 (Operand.tmp 1) 1, type := 0, pos := "variants.go:41", after := #[{ on := 12, ground := Ground.guard }], guard := some (12, false) }) (v := ?v13z7) rfl (by kernel_rfl) (by kernel_rfl) (by kernel_rfl) (fun _ _ _ h => h) (Or.inl ⟨by rfl, ?y13z7⟩) (by assumption) ?r13z7
          case y13z7 => (intro w hSw; (try dsimp only at hSw); go_simp; first | done | with_reducible rfl)
          try simp only [Act.put, List.setIfInBounds_toArray, List.set_cons_zero, List.set_cons_succ]
          refine wpAnyH_take (i := 14) (oi := { dst := some 19, op := Op.load 33 (Operand.tmp 18), type := 33, pos := "variants.go:41", after := #[{ on := 13, ground := Ground.data }, { on := 12, ground := Ground.guard }], guard := some (12, false) }) (v := ?v14z7) rfl (by kernel_rfl) (by kernel_rfl) (by kernel_rfl) (fun _ _ _ h => h) (Or.inl ⟨by rfl, ?y14z7⟩) (by assumption) ?r14z7
          case y14z7 => (intro w hSw; (try dsimp only at hSw); go_simp; first | done | with_reducible rfl)
          try simp only [Act.put, List.setIfInBounds_toArray, List.set_cons_zero, List.set_cons_succ]
          refine wpAnyH_take (i := 15) (oi := { dst := some 20, op := Op.call { callee := Callee.builtin Builtin.len, args := #[Operand.tmp 19], argTypes := #[33] }, type := 3, pos := "variants.go:41", after := #[{ on := 14, ground := Ground.data }, { on := 12, ground := Ground.guard }], guard := some (12, false) }) (v := ?v15z7) rfl (by kernel_rfl) (by kernel_rfl) (by kernel_rfl) (fun _ _ _ h => h) (Or.inl ⟨by rfl, ?y15z7⟩) (by assumption) ?r15z7
          case y15z7 => (intro w hSw; (try dsimp only at hSw); go_simp; first | done | with_reducible rfl)
          try simp only [Act.put, List.setIfInBounds_toArray, List.set_cons_zero, List.set_cons_succ]
          refine wpAnyH_take (i := 16) (oi := { dst := some 21, op := Op.binOp BinOp.lss 3 (Operand.tmp 20) (Operand.const (Value.int IntKind.i64 1)) 3, type := 4, pos := "variants.go:41", after := #[{ on := 15, ground := Ground.data }, { on := 12, ground := Ground.guard }], guard := some (12, false) }) (v := ?v16z7) rfl (by kernel_rfl) (by kernel_rfl) (by kernel_rfl) (fun _ _ _ h => h) (Or.inl ⟨by rfl, ?y16z7⟩) (by assumption) ?r16z7
          case y16z7 => (intro w hSw; (try dsimp only at hSw); go_simp; first | done | with_reducible rfl)
          try simp only [Act.put, List.setIfInBounds_toArray, List.set_cons_zero, List.set_cons_succ]
          refine wpAnyH_take (i := 17) (oi := { dst := some 22, op := Op.pick (Operand.tmp 17) (Operand.const (Value.bool true)) (Operand.tmp 21), type := 4, pos := "variants.go:41", after := #[{ on := 12, ground := Ground.data }, { on := 16, ground := Ground.data }], guard := none }) (v := ?v17z7) rfl (by kernel_rfl) (by kernel_rfl) (by kernel_rfl) (fun _ _ _ h => h) (Or.inl ⟨by rfl, ?y17z7⟩) (by assumption) ?r17z7
          case y17z7 => (intro w hSw; (try dsimp only at hSw); go_simp; first | done | with_reducible rfl)
          try simp only [Act.put, List.setIfInBounds_toArray, List.set_cons_zero, List.set_cons_succ]
          refine wpAnyH_take (i := 18) (oi := { dst := some 23, op := Op.move (Operand.tmp 22), type := 4, pos := "variants.go:41", after := #[{ on := 17, ground := Ground.data }, { on := 12, ground := Ground.chain }], guard := none }) (v := ?v18z7) rfl (by kernel_rfl) (by kernel_rfl) (by kernel_rfl) (fun _ _ _ h => h) (Or.inl ⟨by rfl, ?y18z7⟩) (by assumption) ?r18z7
          case y18z7 => (intro w hSw; (try dsimp only at hSw); go_simp; first | done | with_reducible rfl)
          try simp only [Act.put, List.setIfInBounds_toArray, List.set_cons_zero, List.set_cons_succ]
          refine wpAnyH_take (i := 19) (oi := { dst := some 24, op := Op.fieldAddr 42 (Operand.tmp 1) 1, type := 0, pos := "variants.go:41", after := #[{ on := 18, ground := Ground.guard }], guard := some (18, false) }) (v := ?v19z7) rfl (by kernel_rfl) (by kernel_rfl) (by kernel_rfl) (fun _ _ _ h => h) (Or.inl ⟨by rfl, ?y19z7⟩) (by assumption) ?r19z7
          case y19z7 => (intro w hSw; (try dsimp only at hSw); go_simp; first | done | with_reducible rfl)
          try simp only [Act.put, List.setIfInBounds_toArray, List.set_cons_zero, List.set_cons_succ]
          refine wpAnyH_take (i := 20) (oi := { dst := some 25, op := Op.load 33 (Operand.tmp 24), type := 33, pos := "variants.go:41", after := #[{ on := 19, ground := Ground.data }, { on := 18, ground := Ground.guard }], guard := some (18, false) }) (v := ?v20z7) rfl (by kernel_rfl) (by kernel_rfl) (by kernel_rfl) (fun _ _ _ h => h) (Or.inl ⟨by rfl, ?y20z7⟩) (by assumption) ?r20z7
          case y20z7 => (intro w hSw; (try dsimp only at hSw); go_simp; first | done | with_reducible rfl)
          try simp only [Act.put, List.setIfInBounds_toArray, List.set_cons_zero, List.set_cons_succ]
          refine wpAnyH_take (i := 21) (oi := { dst := some 26, op := Op.call { callee := Callee.builtin Builtin.len, args := #[Operand.tmp 25], argTypes := #[33] }, type := 3, pos := "variants.go:41", after := #[{ on := 20, ground := Ground.data }, { on := 18, ground := Ground.guard }], guard := some (18, false) }) (v := ?v21z7) rfl (by kernel_rfl) (by kernel_rfl) (by kernel_rfl) (fun _ _ _ h => h) (Or.inl ⟨by rfl, ?y21z7⟩) (by assumption) ?r21z7
          case y21z7 => (intro w hSw; (try dsimp only at hSw); go_simp; first | done | with_reducible rfl)
          try simp only [Act.put, List.setIfInBounds_toArray, List.set_cons_zero, List.set_cons_succ]
          refine wpAnyH_take (i := 22) (oi := { dst := some 27, op := Op.binOp BinOp.gtr 3 (Operand.tmp 26) (Operand.const (Value.int IntKind.i64 16)) 3, type := 4, pos := "variants.go:41", after := #[{ on := 21, ground := Ground.data }, { on := 18, ground := Ground.guard }], guard := some (18, false) }) (v := ?v22z7) rfl (by kernel_rfl) (by kernel_rfl) (by kernel_rfl) (fun _ _ _ h => h) (Or.inl ⟨by rfl, ?y22z7⟩) (by assumption) ?r22z7
          case y22z7 => (intro w hSw; (try dsimp only at hSw); go_simp; first | done | with_reducible rfl)
          try simp only [Act.put, List.setIfInBounds_toArray, List.set_cons_zero, List.set_cons_succ]
          refine wpAnyH_take (i := 23) (oi := { dst := some 28, op := Op.pick (Operand.tmp 23) (Operand.const (Value.bool true)) (Operand.tmp 27), type := 4, pos := "variants.go:41", after := #[{ on := 18, ground := Ground.data }, { on := 22, ground := Ground.data }], guard := none }) (v := ?v23z7) rfl (by kernel_rfl) (by kernel_rfl) (by kernel_rfl) (fun _ _ _ h => h) (Or.inl ⟨by rfl, ?y23z7⟩) (by assumption) ?r23z7
          case y23z7 => (intro w hSw; (try dsimp only at hSw); go_simp; first | done | with_reducible rfl)
          try simp only [Act.put, List.setIfInBounds_toArray, List.set_cons_zero, List.set_cons_succ]
          refine wpAnyH_done (by kernel_rfl) ?_ _
          all_goals
            go_wp2
            go_ret
            exact ⟨by rw [HV.out]; rfl, B0.out.trans (hHeld.2.out.mono B0.out.size)⟩
      · have i1 : decide ((V.length : Int) < 1) = true := decide_eq_true (by omega)
        have HV := box (head_no3 (n := n) h1)
        clear ht hlx hlo
        go_enter Tryz.func34, Tryz.ntmps34
        go_wp2
        refine wp_region_held_drew (S := (fun w' : World => (w'.cell? ⟨w.heap.size, 0, none⟩ = some (.string n) ∧ w'.cell? ⟨w.heap.size, 1, none⟩ = some (.slice b V.length c)) ∧ Box (Below (w.alloc (.cells #[.string n, .slice b V.length c] 42)).heap.size (w.alloc (.cells #[.string n, .slice b V.length c] 42)) w'))) (by kernel_rfl) ⟨⟨c0, c1⟩, box (Below.refl _ _).drew⟩ (fun hHeld => ?_)
        refine wpAnyH_take (i := 0) (oi := { dst := some 5, op := Op.fieldAddr 42 (Operand.tmp 1) 0, type := 0, pos := "variants.go:41", after := #[], guard := none }) (v := ?v0z8) rfl (by kernel_rfl) (by kernel_rfl) (by kernel_rfl) (fun _ _ _ h => h) (Or.inl ⟨by rfl, ?y0z8⟩) (by assumption) ?r0z8
        case y0z8 => (intro w hSw; (try dsimp only at hSw); go_simp; first | done | with_reducible rfl)
        try simp only [Act.put, List.setIfInBounds_toArray, List.set_cons_zero, List.set_cons_succ]
        refine wpAnyH_take (i := 1) (oi := { dst := some 6, op := Op.load 9 (Operand.tmp 5), type := 9, pos := "variants.go:41", after := #[{ on := 0, ground := Ground.data }], guard := none }) (v := ?v1z8) rfl (by kernel_rfl) (by kernel_rfl) (by kernel_rfl) (fun _ _ _ h => h) (Or.inl ⟨by rfl, ?y1z8⟩) (by assumption) ?r1z8
        case y1z8 => (intro w hSw; (try dsimp only at hSw); go_simp; first | done | with_reducible rfl)
        try simp only [Act.put, List.setIfInBounds_toArray, List.set_cons_zero, List.set_cons_succ]
        refine wpAnyH_ready (rs := [2]) (by kernel_rfl) (by simp) ?_
        refine AllReadyH.cons (o := { dst := some 7, op := Op.call { callee := Callee.value (Operand.func 58), args := #[Operand.tmp 6], argTypes := #[9] }, type := 4, pos := "variants.go:41", after := #[{ on := 1, ground := Ground.data }], guard := none }) rfl (fun K hK => ?_) AllReadyH.nil
        go_simp
        refine (rTok13_is HNM.out HT).mono ?_; rintro e w2 ⟨rfl, rfl⟩
        go_wp2_with fail
        refine hK.out _ _ ⟨hHeld.1, hHeld.2⟩ (fun hHeld => ?_)
        clear hK K
        try simp only [Act.put, List.setIfInBounds_toArray, List.set_cons_zero, List.set_cons_succ]
        refine wpAnyH_take (i := 3) (oi := { dst := some 8, op := Op.unOp UnOp.not 4 (Operand.tmp 7), type := 4, pos := "variants.go:41", after := #[{ on := 2, ground := Ground.data }], guard := none }) (v := ?v3z8) rfl (by kernel_rfl) (by kernel_rfl) (by kernel_rfl) (fun _ _ _ h => h) (Or.inl ⟨by rfl, ?y3z8⟩) (by assumption) ?r3z8
        case y3z8 => (intro w hSw; (try dsimp only at hSw); go_simp; first | done | with_reducible rfl)
        try simp only [Act.put, List.setIfInBounds_toArray, List.set_cons_zero, List.set_cons_succ]
        refine wpAnyH_take (i := 4) (oi := { dst := some 9, op := Op.move (Operand.tmp 8), type := 4, pos := "variants.go:41", after := #[{ on := 3, ground := Ground.data }, { on := 2, ground := Ground.chain }], guard := none }) (v := ?v4z8) rfl (by kernel_rfl) (by kernel_rfl) (by kernel_rfl) (fun _ _ _ h => h) (Or.inl ⟨by rfl, ?y4z8⟩) (by assumption) ?r4z8
        case y4z8 => (intro w hSw; (try dsimp only at hSw); go_simp; first | done | with_reducible rfl)
        try simp only [Act.put, List.setIfInBounds_toArray, List.set_cons_zero, List.set_cons_succ]
        refine wpAnyH_take (i := 5) (oi := { dst := some 10, op := Op.fieldAddr 42 (Operand.tmp 1) 0, type := 0, pos := "variants.go:41", after := #[{ on := 4, ground := Ground.guard }], guard := some (4, false) }) (v := ?v5z8) rfl (by kernel_rfl) (by kernel_rfl) (by kernel_rfl) (fun _ _ _ h => h) (Or.inl ⟨by rfl, ?y5z8⟩) (by assumption) ?r5z8
        case y5z8 => (intro w hSw; (try dsimp only at hSw); go_simp; first | done | with_reducible rfl)
        try simp only [Act.put, List.setIfInBounds_toArray, List.set_cons_zero, List.set_cons_succ]
        refine wpAnyH_take (i := 6) (oi := { dst := some 11, op := Op.load 9 (Operand.tmp 10), type := 9, pos := "variants.go:41", after := #[{ on := 5, ground := Ground.data }, { on := 4, ground := Ground.guard }], guard := some (4, false) }) (v := ?v6z8) rfl (by kernel_rfl) (by kernel_rfl) (by kernel_rfl) (fun _ _ _ h => h) (Or.inl ⟨by rfl, ?y6z8⟩) (by assumption) ?r6z8
        case y6z8 => (intro w hSw; (try dsimp only at hSw); go_simp; first | done | with_reducible rfl)
        try simp only [Act.put, List.setIfInBounds_toArray, List.set_cons_zero, List.set_cons_succ]
        refine wpAnyH_take (i := 8) (oi := { dst := some 13, op := Op.fieldAddr 42 (Operand.tmp 1) 0, type := 0, pos := "variants.go:41", after := #[{ on := 4, ground := Ground.guard }], guard := some (4, false) }) (v := ?v8z8) rfl (by kernel_rfl) (by kernel_rfl) (by kernel_rfl) (fun _ _ _ h => h) (Or.inl ⟨by rfl, ?y8z8⟩) (by assumption) ?r8z8
        case y8z8 => (intro w hSw; (try dsimp only at hSw); go_simp; first | done | with_reducible rfl)
        try simp only [Act.put, List.setIfInBounds_toArray, List.set_cons_zero, List.set_cons_succ]
        refine wpAnyH_take (i := 9) (oi := { dst := some 14, op := Op.load 9 (Operand.tmp 13), type := 9, pos := "variants.go:41", after := #[{ on := 8, ground := Ground.data }, { on := 4, ground := Ground.guard }], guard := some (4, false) }) (v := ?v9z8) rfl (by kernel_rfl) (by kernel_rfl) (by kernel_rfl) (fun _ _ _ h => h) (Or.inl ⟨by rfl, ?y9z8⟩) (by assumption) ?r9z8
        case y9z8 => (intro w hSw; (try dsimp only at hSw); go_simp; first | done | with_reducible rfl)
        try simp only [Act.put, List.setIfInBounds_toArray, List.set_cons_zero, List.set_cons_succ]
        refine wpAnyH_ready (rs := [7]) (by kernel_rfl) (by simp) ?_
        refine AllReadyH.cons (o := { dst := some 12, op := Op.call { callee := Callee.value (Operand.func 59), args := #[Operand.tmp 11], argTypes := #[9] }, type := 9, pos := "variants.go:41", after := #[{ on := 6, ground := Ground.data }, { on := 4, ground := Ground.chain }, { on := 4, ground := Ground.guard }], guard := some (4, false) }) rfl (fun K hK => ?_) AllReadyH.nil
        go_simp
        refine (rLow12_is hn4 HL).mono ?_; rintro e w2 ⟨rfl, hb2⟩
        go_wp2_with fail
        refine hK.out _ _ ⟨⟨(hb2.cell (p := ⟨w.heap.size, 0, none⟩) (cell_lt hHeld.1.1)).trans hHeld.1.1, (hb2.cell (p := ⟨w.heap.size, 1, none⟩) (cell_lt hHeld.1.2)).trans hHeld.1.2⟩, box (hHeld.2.out.trans (hb2.mono hHeld.2.out.size))⟩ (fun hHeld => ?_)
        clear hK K
        try simp only [Act.put, List.setIfInBounds_toArray, List.set_cons_zero, List.set_cons_succ]
        refine wpAnyH_take (i := 10) (oi := { dst := some 15, op := Op.binOp BinOp.neq 9 (Operand.tmp 12) (Operand.tmp 14) 9, type := 4, pos := "variants.go:41", after := #[{ on := 7, ground := Ground.data }, { on := 9, ground := Ground.data }, { on := 4, ground := Ground.guard }], guard := some (4, false) }) (v := ?v10z8) rfl (by kernel_rfl) (by kernel_rfl) (by kernel_rfl) (fun _ _ _ h => h) (Or.inl ⟨by rfl, ?y10z8⟩) (by assumption) ?r10z8
        case y10z8 => (intro w hSw; (try dsimp only at hSw); go_simp; first | done | with_reducible rfl)
        try simp only [Act.put, List.setIfInBounds_toArray, List.set_cons_zero, List.set_cons_succ]
        refine wpAnyH_take (i := 11) (oi := { dst := some 16, op := Op.pick (Operand.tmp 9) (Operand.const (Value.bool true)) (Operand.tmp 15), type := 4, pos := "variants.go:41", after := #[{ on := 4, ground := Ground.data }, { on := 10, ground := Ground.data }], guard := none }) (v := ?v11z8) rfl (by kernel_rfl) (by kernel_rfl) (by kernel_rfl) (fun _ _ _ h => h) (Or.inl ⟨by rfl, ?y11z8⟩) (by assumption) ?r11z8
        case y11z8 => (intro w hSw; (try dsimp only at hSw); go_simp; first | done | with_reducible rfl)
        try simp only [Act.put, List.setIfInBounds_toArray, List.set_cons_zero, List.set_cons_succ]
        refine wpAnyH_take (i := 12) (oi := { dst := some 17, op := Op.move (Operand.tmp 16), type := 4, pos := "variants.go:41", after := #[{ on := 11, ground := Ground.data }, { on := 7, ground := Ground.chain }], guard := none }) (v := ?v12z8) rfl (by kernel_rfl) (by kernel_rfl) (by kernel_rfl) (fun _ _ _ h => h) (Or.inl ⟨by rfl, ?y12z8⟩) (by assumption) ?r12z8
        case y12z8 => (intro w hSw; (try dsimp only at hSw); go_simp; first | done | with_reducible rfl)
        try simp only [Act.put, List.setIfInBounds_toArray, List.set_cons_zero, List.set_cons_succ]
        refine wpAnyH_take (i := 13) (oi := { dst := some 18, op := Op.fieldAddr 42 (Operand.tmp 1) 1, type := 0, pos := "variants.go:41", after := #[{ on := 12, ground := Ground.guard }], guard := some (12, false) }) (v := ?v13z8) rfl (by kernel_rfl) (by kernel_rfl) (by kernel_rfl) (fun _ _ _ h => h) (Or.inl ⟨by rfl, ?y13z8⟩) (by assumption) ?r13z8
        case y13z8 => (intro w hSw; (try dsimp only at hSw); go_simp; first | done | with_reducible rfl)
        try simp only [Act.put, List.setIfInBounds_toArray, List.set_cons_zero, List.set_cons_succ]
        refine wpAnyH_take (i := 14) (oi := { dst := some 19, op := Op.load 33 (Operand.tmp 18), type := 33, pos := "variants.go:41", after := #[{ on := 13, ground := Ground.data }, { on := 12, ground := Ground.guard }], guard := some (12, false) }) (v := ?v14z8) rfl (by kernel_rfl) (by kernel_rfl) (by kernel_rfl) (fun _ _ _ h => h) (Or.inl ⟨by rfl, ?y14z8⟩) (by assumption) ?r14z8
        case y14z8 => (intro w hSw; (try dsimp only at hSw); go_simp; first | done | with_reducible rfl)
        try simp only [Act.put, List.setIfInBounds_toArray, List.set_cons_zero, List.set_cons_succ]
        refine wpAnyH_take (i := 15) (oi := { dst := some 20, op := Op.call { callee := Callee.builtin Builtin.len, args := #[Operand.tmp 19], argTypes := #[33] }, type := 3, pos := "variants.go:41", after := #[{ on := 14, ground := Ground.data }, { on := 12, ground := Ground.guard }], guard := some (12, false) }) (v := ?v15z8) rfl (by kernel_rfl) (by kernel_rfl) (by kernel_rfl) (fun _ _ _ h => h) (Or.inl ⟨by rfl, ?y15z8⟩) (by assumption) ?r15z8
        case y15z8 => (intro w hSw; (try dsimp only at hSw); go_simp; first | done | with_reducible rfl)
        try simp only [Act.put, List.setIfInBounds_toArray, List.set_cons_zero, List.set_cons_succ]
        refine wpAnyH_take (i := 16) (oi := { dst := some 21, op := Op.binOp BinOp.lss 3 (Operand.tmp 20) (Operand.const (Value.int IntKind.i64 1)) 3, type := 4, pos := "variants.go:41", after := #[{ on := 15, ground := Ground.data }, { on := 12, ground := Ground.guard }], guard := some (12, false) }) (v := ?v16z8) rfl (by kernel_rfl) (by kernel_rfl) (by kernel_rfl) (fun _ _ _ h => h) (Or.inl ⟨by rfl, ?y16z8⟩) (by assumption) ?r16z8
        case y16z8 => (intro w hSw; (try dsimp only at hSw); go_simp; first | done | with_reducible rfl)
        try simp only [Act.put, List.setIfInBounds_toArray, List.set_cons_zero, List.set_cons_succ]
        refine wpAnyH_take (i := 17) (oi := { dst := some 22, op := Op.pick (Operand.tmp 17) (Operand.const (Value.bool true)) (Operand.tmp 21), type := 4, pos := "variants.go:41", after := #[{ on := 12, ground := Ground.data }, { on := 16, ground := Ground.data }], guard := none }) (v := ?v17z8) rfl (by kernel_rfl) (by kernel_rfl) (by kernel_rfl) (fun _ _ _ h => h) (Or.inl ⟨by rfl, ?y17z8⟩) (by assumption) ?r17z8
        case y17z8 => (intro w hSw; (try dsimp only at hSw); go_simp; first | done | with_reducible rfl)
        try simp only [Act.put, List.setIfInBounds_toArray, List.set_cons_zero, List.set_cons_succ]
        refine wpAnyH_take (i := 18) (oi := { dst := some 23, op := Op.move (Operand.tmp 22), type := 4, pos := "variants.go:41", after := #[{ on := 17, ground := Ground.data }, { on := 12, ground := Ground.chain }], guard := none }) (v := ?v18z8) rfl (by kernel_rfl) (by kernel_rfl) (by kernel_rfl) (fun _ _ _ h => h) (Or.inl ⟨by rfl, ?y18z8⟩) (by assumption) ?r18z8
        case y18z8 => (intro w hSw; (try dsimp only at hSw); go_simp; first | done | with_reducible rfl)
        try simp only [Act.put, List.setIfInBounds_toArray, List.set_cons_zero, List.set_cons_succ]
        refine wpAnyH_take (i := 19) (oi := { dst := some 24, op := Op.fieldAddr 42 (Operand.tmp 1) 1, type := 0, pos := "variants.go:41", after := #[{ on := 18, ground := Ground.guard }], guard := some (18, false) }) (v := undef) rfl (by kernel_rfl) (by kernel_rfl) (by kernel_rfl) (fun _ _ _ h => h) (Or.inr ⟨by rfl, rfl⟩) (by assumption) ?_
        try simp only [Act.put, List.setIfInBounds_toArray, List.set_cons_zero, List.set_cons_succ]
        refine wpAnyH_take (i := 20) (oi := { dst := some 25, op := Op.load 33 (Operand.tmp 24), type := 33, pos := "variants.go:41", after := #[{ on := 19, ground := Ground.data }, { on := 18, ground := Ground.guard }], guard := some (18, false) }) (v := undef) rfl (by kernel_rfl) (by kernel_rfl) (by kernel_rfl) (fun _ _ _ h => h) (Or.inr ⟨by rfl, rfl⟩) (by assumption) ?_
        try simp only [Act.put, List.setIfInBounds_toArray, List.set_cons_zero, List.set_cons_succ]
        refine wpAnyH_take (i := 21) (oi := { dst := some 26, op := Op.call { callee := Callee.builtin Builtin.len, args := #[Operand.tmp 25], argTypes := #[33] }, type := 3, pos := "variants.go:41", after := #[{ on := 20, ground := Ground.data }, { on := 18, ground := Ground.guard }], guard := some (18, false) }) (v := undef) rfl (by kernel_rfl) (by kernel_rfl) (by kernel_rfl) (fun _ _ _ h => h) (Or.inr ⟨by rfl, rfl⟩) (by assumption) ?_
        try simp only [Act.put, List.setIfInBounds_toArray, List.set_cons_zero, List.set_cons_succ]
        refine wpAnyH_take (i := 22) (oi := { dst := some 27, op := Op.binOp BinOp.gtr 3 (Operand.tmp 26) (Operand.const (Value.int IntKind.i64 16)) 3, type := 4, pos := "variants.go:41", after := #[{ on := 21, ground := Ground.data }, { on := 18, ground := Ground.guard }], guard := some (18, false) }) (v := undef) rfl (by kernel_rfl) (by kernel_rfl) (by kernel_rfl) (fun _ _ _ h => h) (Or.inr ⟨by rfl, rfl⟩) (by assumption) ?_
        try simp only [Act.put, List.setIfInBounds_toArray, List.set_cons_zero, List.set_cons_succ]
        refine wpAnyH_take (i := 23) (oi := { dst := some 28, op := Op.pick (Operand.tmp 23) (Operand.const (Value.bool true)) (Operand.tmp 27), type := 4, pos := "variants.go:41", after := #[{ on := 18, ground := Ground.data }, { on := 22, ground := Ground.data }], guard := none }) (v := ?v23z8) rfl (by kernel_rfl) (by kernel_rfl) (by kernel_rfl) (fun _ _ _ h => h) (Or.inl ⟨by rfl, ?y23z8⟩) (by assumption) ?r23z8
        case y23z8 => (intro w hSw; (try dsimp only at hSw); go_simp; first | done | with_reducible rfl)
        try simp only [Act.put, List.setIfInBounds_toArray, List.set_cons_zero, List.set_cons_succ]
        refine wpAnyH_done (by kernel_rfl) ?_ _
        all_goals
          go_wp2
          go_ret
          exact ⟨by rw [HV.out]; rfl, B0.out.trans (hHeld.2.out.mono B0.out.size)⟩
    · have hneq : (lx.toList == n.toList) = false := by rw [← hlx, toList_bs, toList_data]; exact beq_eq_false_iff_ne.2 hlo
      have HV := box (head_no2 (V := V) hlo)
      clear ht hlx hlo
      go_enter Tryz.func34, Tryz.ntmps34
      go_wp2
      refine wp_region_held_drew (S := (fun w' : World => (w'.cell? ⟨w.heap.size, 0, none⟩ = some (.string n) ∧ w'.cell? ⟨w.heap.size, 1, none⟩ = some (.slice b V.length c)) ∧ Box (Below (w.alloc (.cells #[.string n, .slice b V.length c] 42)).heap.size (w.alloc (.cells #[.string n, .slice b V.length c] 42)) w'))) (by kernel_rfl) ⟨⟨c0, c1⟩, box (Below.refl _ _).drew⟩ (fun hHeld => ?_)
      refine wpAnyH_take (i := 0) (oi := { dst := some 5, op := Op.fieldAddr 42 (Operand.tmp 1) 0, type := 0, pos := "variants.go:41", after := #[], guard := none }) (v := ?v0z9) rfl (by kernel_rfl) (by kernel_rfl) (by kernel_rfl) (fun _ _ _ h => h) (Or.inl ⟨by rfl, ?y0z9⟩) (by assumption) ?r0z9
      case y0z9 => (intro w hSw; (try dsimp only at hSw); go_simp; first | done | with_reducible rfl)
      try simp only [Act.put, List.setIfInBounds_toArray, List.set_cons_zero, List.set_cons_succ]
      refine wpAnyH_take (i := 1) (oi := { dst := some 6, op := Op.load 9 (Operand.tmp 5), type := 9, pos := "variants.go:41", after := #[{ on := 0, ground := Ground.data }], guard := none }) (v := ?v1z9) rfl (by kernel_rfl) (by kernel_rfl) (by kernel_rfl) (fun _ _ _ h => h) (Or.inl ⟨by rfl, ?y1z9⟩) (by assumption) ?r1z9
      case y1z9 => (intro w hSw; (try dsimp only at hSw); go_simp; first | done | with_reducible rfl)
      try simp only [Act.put, List.setIfInBounds_toArray, List.set_cons_zero, List.set_cons_succ]
      refine wpAnyH_ready (rs := [2]) (by kernel_rfl) (by simp) ?_
      refine AllReadyH.cons (o := { dst := some 7, op := Op.call { callee := Callee.value (Operand.func 58), args := #[Operand.tmp 6], argTypes := #[9] }, type := 4, pos := "variants.go:41", after := #[{ on := 1, ground := Ground.data }], guard := none }) rfl (fun K hK => ?_) AllReadyH.nil
      go_simp
      refine (rTok13_is HNM.out HT).mono ?_; rintro e w2 ⟨rfl, rfl⟩
      go_wp2_with fail
      refine hK.out _ _ ⟨hHeld.1, hHeld.2⟩ (fun hHeld => ?_)
      clear hK K
      try simp only [Act.put, List.setIfInBounds_toArray, List.set_cons_zero, List.set_cons_succ]
      refine wpAnyH_take (i := 3) (oi := { dst := some 8, op := Op.unOp UnOp.not 4 (Operand.tmp 7), type := 4, pos := "variants.go:41", after := #[{ on := 2, ground := Ground.data }], guard := none }) (v := ?v3z9) rfl (by kernel_rfl) (by kernel_rfl) (by kernel_rfl) (fun _ _ _ h => h) (Or.inl ⟨by rfl, ?y3z9⟩) (by assumption) ?r3z9
      case y3z9 => (intro w hSw; (try dsimp only at hSw); go_simp; first | done | with_reducible rfl)
      try simp only [Act.put, List.setIfInBounds_toArray, List.set_cons_zero, List.set_cons_succ]
      refine wpAnyH_take (i := 4) (oi := { dst := some 9, op := Op.move (Operand.tmp 8), type := 4, pos := "variants.go:41", after := #[{ on := 3, ground := Ground.data }, { on := 2, ground := Ground.chain }], guard := none }) (v := ?v4z9) rfl (by kernel_rfl) (by kernel_rfl) (by kernel_rfl) (fun _ _ _ h => h) (Or.inl ⟨by rfl, ?y4z9⟩) (by assumption) ?r4z9
      case y4z9 => (intro w hSw; (try dsimp only at hSw); go_simp; first | done | with_reducible rfl)
      try simp only [Act.put, List.setIfInBounds_toArray, List.set_cons_zero, List.set_cons_succ]
      refine wpAnyH_take (i := 5) (oi := { dst := some 10, op := Op.fieldAddr 42 (Operand.tmp 1) 0, type := 0, pos := "variants.go:41", after := #[{ on := 4, ground := Ground.guard }], guard := some (4, false) }) (v := ?v5z9) rfl (by kernel_rfl) (by kernel_rfl) (by kernel_rfl) (fun _ _ _ h => h) (Or.inl ⟨by rfl, ?y5z9⟩) (by assumption) ?r5z9
      case y5z9 => (intro w hSw; (try dsimp only at hSw); go_simp; first | done | with_reducible rfl)
      try simp only [Act.put, List.setIfInBounds_toArray, List.set_cons_zero, List.set_cons_succ]
      refine wpAnyH_take (i := 6) (oi := { dst := some 11, op := Op.load 9 (Operand.tmp 10), type := 9, pos := "variants.go:41", after := #[{ on := 5, ground := Ground.data }, { on := 4, ground := Ground.guard }], guard := some (4, false) }) (v := ?v6z9) rfl (by kernel_rfl) (by kernel_rfl) (by kernel_rfl) (fun _ _ _ h => h) (Or.inl ⟨by rfl, ?y6z9⟩) (by assumption) ?r6z9
      case y6z9 => (intro w hSw; (try dsimp only at hSw); go_simp; first | done | with_reducible rfl)
      try simp only [Act.put, List.setIfInBounds_toArray, List.set_cons_zero, List.set_cons_succ]
      refine wpAnyH_take (i := 8) (oi := { dst := some 13, op := Op.fieldAddr 42 (Operand.tmp 1) 0, type := 0, pos := "variants.go:41", after := #[{ on := 4, ground := Ground.guard }], guard := some (4, false) }) (v := ?v8z9) rfl (by kernel_rfl) (by kernel_rfl) (by kernel_rfl) (fun _ _ _ h => h) (Or.inl ⟨by rfl, ?y8z9⟩) (by assumption) ?r8z9
      case y8z9 => (intro w hSw; (try dsimp only at hSw); go_simp; first | done | with_reducible rfl)
      try simp only [Act.put, List.setIfInBounds_toArray, List.set_cons_zero, List.set_cons_succ]
      refine wpAnyH_take (i := 9) (oi := { dst := some 14, op := Op.load 9 (Operand.tmp 13), type := 9, pos := "variants.go:41", after := #[{ on := 8, ground := Ground.data }, { on := 4, ground := Ground.guard }], guard := some (4, false) }) (v := ?v9z9) rfl (by kernel_rfl) (by kernel_rfl) (by kernel_rfl) (fun _ _ _ h => h) (Or.inl ⟨by rfl, ?y9z9⟩) (by assumption) ?r9z9
      case y9z9 => (intro w hSw; (try dsimp only at hSw); go_simp; first | done | with_reducible rfl)
      try simp only [Act.put, List.setIfInBounds_toArray, List.set_cons_zero, List.set_cons_succ]
      refine wpAnyH_ready (rs := [7]) (by kernel_rfl) (by simp) ?_
      refine AllReadyH.cons (o := { dst := some 12, op := Op.call { callee := Callee.value (Operand.func 59), args := #[Operand.tmp 11], argTypes := #[9] }, type := 9, pos := "variants.go:41", after := #[{ on := 6, ground := Ground.data }, { on := 4, ground := Ground.chain }, { on := 4, ground := Ground.guard }], guard := some (4, false) }) rfl (fun K hK => ?_) AllReadyH.nil
      go_simp
      refine (rLow12_is hn4 HL).mono ?_; rintro e w2 ⟨rfl, hb2⟩
      go_wp2_with fail
      refine hK.out _ _ ⟨⟨(hb2.cell (p := ⟨w.heap.size, 0, none⟩) (cell_lt hHeld.1.1)).trans hHeld.1.1, (hb2.cell (p := ⟨w.heap.size, 1, none⟩) (cell_lt hHeld.1.2)).trans hHeld.1.2⟩, box (hHeld.2.out.trans (hb2.mono hHeld.2.out.size))⟩ (fun hHeld => ?_)
      clear hK K
      try simp only [Act.put, List.setIfInBounds_toArray, List.set_cons_zero, List.set_cons_succ]
      refine wpAnyH_take (i := 10) (oi := { dst := some 15, op := Op.binOp BinOp.neq 9 (Operand.tmp 12) (Operand.tmp 14) 9, type := 4, pos := "variants.go:41", after := #[{ on := 7, ground := Ground.data }, { on := 9, ground := Ground.data }, { on := 4, ground := Ground.guard }], guard := some (4, false) }) (v := ?v10z9) rfl (by kernel_rfl) (by kernel_rfl) (by kernel_rfl) (fun _ _ _ h => h) (Or.inl ⟨by rfl, ?y10z9⟩) (by assumption) ?r10z9
      case y10z9 => (intro w hSw; (try dsimp only at hSw); go_simp; first | done | with_reducible rfl)
      try simp only [Act.put, List.setIfInBounds_toArray, List.set_cons_zero, List.set_cons_succ]
      refine wpAnyH_take (i := 11) (oi := { dst := some 16, op := Op.pick (Operand.tmp 9) (Operand.const (Value.bool true)) (Operand.tmp 15), type := 4, pos := "variants.go:41", after := #[{ on := 4, ground := Ground.data }, { on := 10, ground := Ground.data }], guard := none }) (v := ?v11z9) rfl (by kernel_rfl) (by kernel_rfl) (by kernel_rfl) (fun _ _ _ h => h) (Or.inl ⟨by rfl, ?y11z9⟩) (by assumption) ?r11z9
      case y11z9 => (intro w hSw; (try dsimp only at hSw); go_simp; first | done | with_reducible rfl)
      try simp only [Act.put, List.setIfInBounds_toArray, List.set_cons_zero, List.set_cons_succ]
      refine wpAnyH_take (i := 12) (oi := { dst := some 17, op := Op.move (Operand.tmp 16), type := 4, pos := "variants.go:41", after := #[{ on := 11, ground := Ground.data }, { on := 7, ground := Ground.chain }], guard := none }) (v := ?v12z9) rfl (by kernel_rfl) (by kernel_rfl) (by kernel_rfl) (fun _ _ _ h => h) (Or.inl ⟨by rfl, ?y12z9⟩) (by assumption) ?r12z9
      case y12z9 => (intro w hSw; (try dsimp only at hSw); go_simp; first | done | with_reducible rfl)
      try simp only [Act.put, List.setIfInBounds_toArray, List.set_cons_zero, List.set_cons_succ]
      refine wpAnyH_take (i := 13) (oi := { dst := some 18, op := Op.fieldAddr 42 (Operand.tmp 1) 1, type := 0, pos := "variants.go:41", after := #[{ on := 12, ground := Ground.guard }], guard := some (12, false) }) (v := undef) rfl (by kernel_rfl) (by kernel_rfl) (by kernel_rfl) (fun _ _ _ h => h) (Or.inr ⟨by rfl, rfl⟩) (by assumption) ?_
      try simp only [Act.put, List.setIfInBounds_toArray, List.set_cons_zero, List.set_cons_succ]
      refine wpAnyH_take (i := 14) (oi := { dst := some 19, op := Op.load 33 (Operand.tmp 18), type := 33, pos := "variants.go:41", after := #[{ on := 13, ground := Ground.data }, { on := 12, ground := Ground.guard }], guard := some (12, false) }) (v := undef) rfl (by kernel_rfl) (by kernel_rfl) (by kernel_rfl) (fun _ _ _ h => h) (Or.inr ⟨by rfl, rfl⟩) (by assumption) ?_
      try simp only [Act.put, List.setIfInBounds_toArray, List.set_cons_zero, List.set_cons_succ]
      refine wpAnyH_take (i := 15) (oi := { dst := some 20, op := Op.call { callee := Callee.builtin Builtin.len, args := #[Operand.tmp 19], argTypes := #[33] }, type := 3, pos := "variants.go:41", after := #[{ on := 14, ground := Ground.data }, { on := 12, ground := Ground.guard }], guard := some (12, false) }) (v := undef) rfl (by kernel_rfl) (by kernel_rfl) (by kernel_rfl) (fun _ _ _ h => h) (Or.inr ⟨by rfl, rfl⟩) (by assumption) ?_
      try simp only [Act.put, List.setIfInBounds_toArray, List.set_cons_zero, List.set_cons_succ]
      refine wpAnyH_take (i := 16) (oi := { dst := some 21, op := Op.binOp BinOp.lss 3 (Operand.tmp 20) (Operand.const (Value.int IntKind.i64 1)) 3, type := 4, pos := "variants.go:41", after := #[{ on := 15, ground := Ground.data }, { on := 12, ground := Ground.guard }], guard := some (12, false) }) (v := undef) rfl (by kernel_rfl) (by kernel_rfl) (by kernel_rfl) (fun _ _ _ h => h) (Or.inr ⟨by rfl, rfl⟩) (by assumption) ?_
      try simp only [Act.put, List.setIfInBounds_toArray, List.set_cons_zero, List.set_cons_succ]
      refine wpAnyH_take (i := 17) (oi := { dst := some 22, op := Op.pick (Operand.tmp 17) (Operand.const (Value.bool true)) (Operand.tmp 21), type := 4, pos := "variants.go:41", after := #[{ on := 12, ground := Ground.data }, { on := 16, ground := Ground.data }], guard := none }) (v := ?v17z9) rfl (by kernel_rfl) (by kernel_rfl) (by kernel_rfl) (fun _ _ _ h => h) (Or.inl ⟨by rfl, ?y17z9⟩) (by assumption) ?r17z9
      case y17z9 => (intro w hSw; (try dsimp only at hSw); go_simp; first | done | with_reducible rfl)
      try simp only [Act.put, List.setIfInBounds_toArray, List.set_cons_zero, List.set_cons_succ]
      refine wpAnyH_take (i := 18) (oi := { dst := some 23, op := Op.move (Operand.tmp 22), type := 4, pos := "variants.go:41", after := #[{ on := 17, ground := Ground.data }, { on := 12, ground := Ground.chain }], guard := none }) (v := ?v18z9) rfl (by kernel_rfl) (by kernel_rfl) (by kernel_rfl) (fun _ _ _ h => h) (Or.inl ⟨by rfl, ?y18z9⟩) (by assumption) ?r18z9
      case y18z9 => (intro w hSw; (try dsimp only at hSw); go_simp; first | done | with_reducible rfl)
      try simp only [Act.put, List.setIfInBounds_toArray, List.set_cons_zero, List.set_cons_succ]
      refine wpAnyH_take (i := 19) (oi := { dst := some 24, op := Op.fieldAddr 42 (Operand.tmp 1) 1, type := 0, pos := "variants.go:41", after := #[{ on := 18, ground := Ground.guard }], guard := some (18, false) }) (v := undef) rfl (by kernel_rfl) (by kernel_rfl) (by kernel_rfl) (fun _ _ _ h => h) (Or.inr ⟨by rfl, rfl⟩) (by assumption) ?_
      try simp only [Act.put, List.setIfInBounds_toArray, List.set_cons_zero, List.set_cons_succ]
      refine wpAnyH_take (i := 20) (oi := { dst := some 25, op := Op.load 33 (Operand.tmp 24), type := 33, pos := "variants.go:41", after := #[{ on := 19, ground := Ground.data }, { on := 18, ground := Ground.guard }], guard := some (18, false) }) (v := undef) rfl (by kernel_rfl) (by kernel_rfl) (by kernel_rfl) (fun _ _ _ h => h) (Or.inr ⟨by rfl, rfl⟩) (by assumption) ?_
      try simp only [Act.put, List.setIfInBounds_toArray, List.set_cons_zero, List.set_cons_succ]
      refine wpAnyH_take (i := 21) (oi := { dst := some 26, op := Op.call { callee := Callee.builtin Builtin.len, args := #[Operand.tmp 25], argTypes := #[33] }, type := 3, pos := "variants.go:41", after := #[{ on := 20, ground := Ground.data }, { on := 18, ground := Ground.guard }], guard := some (18, false) }) (v := undef) rfl (by kernel_rfl) (by kernel_rfl) (by kernel_rfl) (fun _ _ _ h => h) (Or.inr ⟨by rfl, rfl⟩) (by assumption) ?_
      try simp only [Act.put, List.setIfInBounds_toArray, List.set_cons_zero, List.set_cons_succ]
      refine wpAnyH_take (i := 22) (oi := { dst := some 27, op := Op.binOp BinOp.gtr 3 (Operand.tmp 26) (Operand.const (Value.int IntKind.i64 16)) 3, type := 4, pos := "variants.go:41", after := #[{ on := 21, ground := Ground.data }, { on := 18, ground := Ground.guard }], guard := some (18, false) }) (v := undef) rfl (by kernel_rfl) (by kernel_rfl) (by kernel_rfl) (fun _ _ _ h => h) (Or.inr ⟨by rfl, rfl⟩) (by assumption) ?_
      try simp only [Act.put, List.setIfInBounds_toArray, List.set_cons_zero, List.set_cons_succ]
      refine wpAnyH_take (i := 23) (oi := { dst := some 28, op := Op.pick (Operand.tmp 23) (Operand.const (Value.bool true)) (Operand.tmp 27), type := 4, pos := "variants.go:41", after := #[{ on := 18, ground := Ground.data }, { on := 22, ground := Ground.data }], guard := none }) (v := ?v23z9) rfl (by kernel_rfl) (by kernel_rfl) (by kernel_rfl) (fun _ _ _ h => h) (Or.inl ⟨by rfl, ?y23z9⟩) (by assumption) ?r23z9
      case y23z9 => (intro w hSw; (try dsimp only at hSw); go_simp; first | done | with_reducible rfl)
      try simp only [Act.put, List.setIfInBounds_toArray, List.set_cons_zero, List.set_cons_succ]
      refine wpAnyH_done (by kernel_rfl) ?_ _
      all_goals
        go_wp2
        go_ret
        exact ⟨by rw [HV.out]; rfl, B0.out.trans (hHeld.2.out.mono B0.out.size)⟩
end
section
open Go.RowKit
theorem rValidAxis_is {n : ByteArray} {b : Option Addr} {c : Nat} {V : List ByteArray} {q : Bool} {w : World} (hn : n.size ≤ 65000) (hl : V.length ≤ 65536) (hz : Box (∀ i (hi : i < V.length), V[i].size ≤ 65000)) (hF : Ss w b V) (h : Box (validA (n, V) = q)) :
    Calls Tryz.prog 34 #[.agg #[.string n, .slice b V.length c]] w fun e w' => e = .returned (.bool q) ∧ Below w.heap.size w w' :=
  (rValidAxis_any n b c V w hn hl hz (box hF)).mono fun e w' ⟨h1, h2⟩ => ⟨by rw [h1, h.out], h2⟩
theorem axes_no {L : List AX} {i m : Nat} (h : i < m) (hf : (validA (atA L i) && newA L i i) = false) : axesV L m = false := range_no h hf
theorem newA_no {L : List AX} {i j : Nat} (h : j < i) (hf : (atA L i).1 = (atA L j).1) : newA L i i = false := range_no h (by rw [hf]; simp)
def smallA (L : List AX) : Prop := ∀ i (hi : i < L.length), L[i].1.size ≤ 65000 ∧ L[i].2.length ≤ 65536 ∧ ∀ j (hj : j < L[i].2.length), L[i].2[j].size ≤ 65000
def AvO (L : List AX) (w : World) (i : Value) (wr : World) : Prop := ∃ j : Nat, i = .int .i64 j ∧ j ≤ L.length ∧ axesV L j = true ∧ Box (Below w.heap.size w wr)
def AvI (L : List AX) (j : Nat) (w : World) (i : Value) (wr : World) : Prop := ∃ m : Nat, i = .int .i64 m ∧ m ≤ j ∧ newA L j m = true ∧ Box (Below w.heap.size w wr)
set_option maxHeartbeats 4000000 in
theorem rValid_any (a : Option Addr) (cap : Nat) (L : List AX) (w : World) (hl : L.length ≤ 65536) (hz : Box (smallA L)) (hF : Box (Axs w a L)) :
    Calls Tryz.prog 18 #[.slice a L.length cap] w fun e w' => e = .returned (.bool (validX L)) ∧ Below w.heap.size w w' := by
  by_cases h1 : 1 ≤ L.length
  · have i1 : ¬ (L.length : Int) < 1 := by omega
    by_cases h2 : L.length ≤ 4
    · have i2 : ¬ (4 : Int) < (L.length : Int) := by omega
      have d1 : decide ((L.length : Int) < 1) = false := decide_eq_false i1
      have d2 : decide ((4 : Int) < (L.length : Int)) = false := decide_eq_false i2
      have HV : Box (validX L = axesV L L.length) := box (by unfold validX; rw [decide_eq_true h1, decide_eq_true h2]; rfl)
      clear h1
      go_enter Tryz.func18, Tryz.ntmps18
      go_wp2
      go_loopw [3, 4] (fun i _ wr => AvO L w i wr) (fun i _ _ => L.length - (intOf i).toNat)
      case atStart => exact ⟨0, rfl, Nat.zero_le _, by unfold axesV; simp, box (Below.refl _ _)⟩
      case round =>
        obtain ⟨j, rfl, hj, hax, B0⟩ := hrel
        have HA := box hax
        have F0 := box (hF.out.below B0.out)
        have hs0 := B0.out.size
        clear hax
        by_cases hlt : j < L.length
        · have hji : (j : Int) < (L.length : Int) := by omega
          obtain ⟨g, off, v, rfl, c0, c1, b, c, rfl, hss, _⟩ := F0.out j hlt
          obtain ⟨z1, z2, z3⟩ := hz.out j hlt
          have SS := box hss
          have Z3 := box z3
          clear hss z3
          rcases hv : validA L[j] with _ | _
          · have HQ := box (show validA (L[j].1, L[j].2) = false from hv)
            have HN : Box (validX L = false) := box (by rw [HV.out]; exact axes_no hlt (by rw [atA_is hlt, hv]; rfl))
            clear hv
            go_wp2_with fail
            refine (rValidAxis_is z1 z2 Z3 SS.out HQ).mono ?_; rintro e w1 ⟨rfl, hb1⟩
            have B1 := box (B0.out.trans (hb1.mono hs0))
            clear hb1 c0 c1
            go_wp2
            go_ret
            exact ⟨by rw [HN.out]; rfl, B1.out⟩
          · have HQ := box (show validA (L[j].1, L[j].2) = true from hv)
            have HVA := box hv
            clear hv
            go_wp2_with fail
            refine (rValidAxis_is z1 z2 Z3 SS.out HQ).mono ?_; rintro e w1 ⟨rfl, hb1⟩
            have B1 := box (B0.out.trans (hb1.mono hs0))
            clear hb1 c0 c1
            go_wp2
            go_loopw [4] (fun i wi => AvI L j w i wi) (fun i _ => j - (intOf i).toNat)
            case atStart => exact ⟨0, rfl, Nat.zero_le _, by unfold newA; simp, B1⟩
            case round =>
              obtain ⟨m, rfl, hm, hnew, B2⟩ := hrel
              have HNW := box hnew
              have hs2 := B2.out.size
              clear hnew
              by_cases hmj : m < j
              · have hmi : (m : Int) < (j : Int) := by omega
                have hml : (m : Int) < (L.length : Int) := by omega
                have hmlt : m < L.length := by omega
                obtain ⟨g', off', v', e, d0, _⟩ := (hF.out.below B2.out) j hlt
                cases e
                obtain ⟨g', off', v', e, d1, _⟩ := (hF.out.below B2.out) m hmlt
                cases e
                rcases hnq : (L[j].1.toList == L[m].1.toList) with _ | _
                · have HN2 : Box (newA L j (m + 1) = true) := box (by
                    have hx := ne_toList L[j].1 L[m].1
                    rw [hnq] at hx
                    rw [newA_more, HNW.out, atA_is hlt, atA_is hmlt, ← hx]; rfl)
                  go_wp2
                  go_quiet (fail)
                  go_wp2
                  go_roundw
                  case rel => exact ⟨m + 1, by go_num, by omega, HN2.out, box (B2.out.trans ((below_drewN _ _).mono hs2))⟩
                  case measure => simp [intOf]; omega
                · have HN2 : Box (validX L = false) := box (by
                    rw [HV.out]
                    refine axes_no hlt ?_
                    rw [newA_no hmj (by rw [atA_is hlt, atA_is hmlt]; exact str_eq hnq), Bool.and_false])
                  go_wp2
                  go_quiet (fail)
                  go_wp2
                  go_ret
                  exact ⟨by rw [HN2.out]; rfl, B2.out.trans ((below_drewN _ _).mono hs2)⟩
              · have hmi : ¬ (m : Int) < (j : Int) := by omega
                have hmj2 : m = j := by omega
                have HN2 : Box (axesV L (j + 1) = true) := box (by
                  have := HNW.out
                  rw [hmj2] at this
                  rw [axesV_more, HA.out, atA_is hlt, HVA.out, this]; rfl)
                clear hmj2
                go_wp2
                go_roundw
                case rel => exact ⟨j + 1, by go_num, by omega, HN2.out, B2⟩
                case measure => simp [intOf]; omega
        · have hji : ¬ (j : Int) < (L.length : Int) := by omega
          have hjl : j = L.length := by omega
          have HN : Box (validX L = true) := box (by rw [HV.out, ← hjl]; exact HA.out)
          clear hjl
          go_wp2
          go_ret
          exact ⟨by rw [HN.out]; rfl, B0.out⟩
    · have i2 : (4 : Int) < (L.length : Int) := by omega
      have HV : Box (validX L = false) := box (by unfold validX; rw [decide_eq_false h2]; simp)
      go_enter Tryz.func18, Tryz.ntmps18
      go_wp2
      go_ret
      exact ⟨by rw [HV.out]; rfl, Below.refl _ _⟩
  · have i1 : (L.length : Int) < 1 := by omega
    have HV : Box (validX L = false) := box (by unfold validX; rw [decide_eq_false h1]; simp)
    go_enter Tryz.func18, Tryz.ntmps18
    go_wp2
    go_ret
    exact ⟨by rw [HV.out]; rfl, Below.refl _ _⟩
end
section
open Go.RowKit
theorem byte_neq {c d : UInt8} : ((c.toNat : Int) != (d.toNat : Int)) = (c != d) := by
  by_cases h : c = d
  · subst h; simp
  · rw [bne_iff_ne.2 h, bne_iff_ne]
    intro e
    exact h (UInt8.toNat_inj.mp (by omega))
theorem rPlain_any (c : UInt8) (w : World) :
    Calls Tryz.prog 49 #[.int .u8 (c.toNat : Int)] w fun e w' => e = .returned (.bool (plainC c)) ∧ w = w' := by
  have e32 : (c != 32) = ((c.toNat : Int) != 32) := (byte_neq (c := c) (d := 32)).symm
  have e9 : (c != 9) = ((c.toNat : Int) != 9) := (byte_neq (c := c) (d := 9)).symm
  have e40 : (c != 40) = ((c.toNat : Int) != 40) := (byte_neq (c := c) (d := 40)).symm
  have e41 : (c != 41) = ((c.toNat : Int) != 41) := (byte_neq (c := c) (d := 41)).symm
  have e44 : (c != 44) = ((c.toNat : Int) != 44) := (byte_neq (c := c) (d := 44)).symm
  have e34 : (c != 34) = ((c.toNat : Int) != 34) := (byte_neq (c := c) (d := 34)).symm
  obtain ⟨q, hq⟩ : ∃ q, plainC c = q := ⟨_, rfl⟩
  have HQ := box hq
  unfold plainC at hq
  rw [e32, e9, e40, e41, e44, e34] at hq
  rw [HQ.out]
  clear e32 e9 e40 e41 e44 e34
  rcases t32 : ((c.toNat : Int) != 32) with _ | _
  · obtain rfl : q = false := by rw [← hq, t32]; simp
    clear hq
    go_enter Tryz.func49, Tryz.ntmps49
    go_wp2
    go_ret
    exact ⟨rfl, rfl⟩
  · skip
    rcases t9 : ((c.toNat : Int) != 9) with _ | _
    · obtain rfl : q = false := by rw [← hq, t32, t9]; simp
      clear hq
      go_enter Tryz.func49, Tryz.ntmps49
      go_wp2
      go_ret
      exact ⟨rfl, rfl⟩
    · skip
      rcases t40 : ((c.toNat : Int) != 40) with _ | _
      · obtain rfl : q = false := by rw [← hq, t32, t9, t40]; simp
        clear hq
        go_enter Tryz.func49, Tryz.ntmps49
        go_wp2
        go_ret
        exact ⟨rfl, rfl⟩
      · skip
        rcases t41 : ((c.toNat : Int) != 41) with _ | _
        · obtain rfl : q = false := by rw [← hq, t32, t9, t40, t41]; simp
          clear hq
          go_enter Tryz.func49, Tryz.ntmps49
          go_wp2
          go_ret
          exact ⟨rfl, rfl⟩
        · skip
          rcases t44 : ((c.toNat : Int) != 44) with _ | _
          · obtain rfl : q = false := by rw [← hq, t32, t9, t40, t41, t44]; simp
            clear hq
            go_enter Tryz.func49, Tryz.ntmps49
            go_wp2
            go_ret
            exact ⟨rfl, rfl⟩
          · skip
            rcases t34 : ((c.toNat : Int) != 34) with _ | _
            · obtain rfl : q = false := by rw [← hq, t32, t9, t40, t41, t44, t34]; simp
              clear hq
              go_enter Tryz.func49, Tryz.ntmps49
              go_wp2
              go_ret
              exact ⟨rfl, rfl⟩
            · obtain rfl : q = true := by rw [← hq, t32, t9, t40, t41, t44, t34]; rfl
              clear hq
              go_enter Tryz.func49, Tryz.ntmps49
              go_wp2
              go_ret
              exact ⟨rfl, rfl⟩
theorem rPlain_is {c : UInt8} {b : Bool} {w : World} (h : Box (plainC c = b)) :
    Calls Tryz.prog 49 #[.int .u8 (c.toNat : Int)] w fun e w' => e = .returned (.bool b) ∧ w = w' :=
  (rPlain_any c w).mono fun e w' ⟨h1, h2⟩ => ⟨by rw [h1, h.out], h2⟩
theorem vals_head {l : List UInt8} (h : 0 < l.length) (h1 : l[0] ≠ 40) : valuesL l = none := by
  unfold valuesL
  rw [if_pos]
  refine .inr (.inl ?_)
  cases l with
  | nil => simp at h
  | cons c r => simpa using h1
theorem vals_last {l : List UInt8} (h : 0 < l.length) (h1 : l[l.length - 1] ≠ 41) : valuesL l = none := by
  unfold valuesL
  rw [if_pos]
  refine .inr (.inr ?_)
  rw [List.getLast?_eq_getElem?, List.getElem?_eq_getElem (by omega)]
  simpa using h1
theorem vals_short {l : List UInt8} (h : l.length < 2) : valuesL l = none := by
  unfold valuesL
  rw [if_pos (.inl h)]
theorem vals_mid {l : List UInt8} (h : 2 ≤ l.length) (h1 : l[0] = 40) (h2 : l[l.length - 1] = 41) : valuesL l = valsL ((l.drop 1).dropLast) [] := by
  unfold valuesL
  rw [if_neg]
  rintro (q | q | q)
  · omega
  · cases l with
    | nil => simp at h
    | cons c r => simp at h1 q; exact q h1
  · rw [List.getLast?_eq_getElem?, List.getElem?_eq_getElem (by omega)] at q
    simp [h2] at q
def valW (w w' : World) (T : Option (List (List UInt8))) (e : Ending) : Prop := ∃ v, e = .returned (.tuple #[v, .bool T.isSome]) ∧ OwnS w' w.heap.size v ((T.getD []).map bs) ∧ Below w.heap.size w w' ∧ (T = none → v = .slice none 0 0)
theorem valW_none {w w' : World} {T : Option (List (List UInt8))} (h : Box (T = none)) (hb : Below w.heap.size w w') : valW w w' T (.returned (.tuple #[.slice none 0 0, .bool false])) := by
  rw [h.out]; exact ⟨_, rfl, OwnS.nil _ _, hb, fun _ => rfl⟩
def VaRel (T : Option (List (List UInt8))) (m : ByteArray) (W : World) (v i : Value) (wr : World) : Prop :=
  ∃ (acc : List (List UInt8)) (k : Nat), i = .int .i64 k ∧ k ≤ m.size ∧ acc.length ≤ k ∧ T = valsL (m.data.toList.drop k) acc ∧ OwnS wr W.heap.size v (acc.map bs) ∧ Below W.heap.size W wr
set_option maxHeartbeats 8000000 in
theorem rValues_any (s : ByteArray) (w : World) (hs : s.size ≤ 65000) :
    Calls Tryz.prog 25 #[.string s] w fun e w' => valW w w' (valuesL s.data.toList) e := by
  have hsl : s.data.toList.length = s.size := by simp
  obtain ⟨T, hT⟩ : ∃ T, valuesL s.data.toList = T := ⟨_, rfl⟩
  rw [hT]
  by_cases h2 : s.size < 2
  · have i2 : (s.size : Int) < 2 := by omega
    have HN : Box (T = none) := box (by rw [← hT]; exact vals_short (by omega))
    clear hT
    go_enter Tryz.func25, Tryz.ntmps25
    go_wp2
    go_ret2
    exact valW_none HN (Below.refl _ _)
  · have i2 : ¬ (s.size : Int) < 2 := by omega
    have h0 : 0 < s.size := by omega
    have hs1 : s.size - 1 < s.size := by omega
    have e0 : s.data.toList[0]'(by omega) = s[0] := rfl
    have e1 : s.data.toList[s.data.toList.length - 1]'(by omega) = s[s.size - 1] := by simp only [hsl]; rfl
    have iw : IntKind.i64.wrap ((s.size : Int) - 1) = ((s.size - 1 : Nat) : Int) := by rw [IntKind.wrap_i64]; omega
    rcases t0 : ((s[0].toNat : Int) != 40) with _ | _
    · rcases t1 : ((s[s.size - 1].toNat : Int) != 41) with _ | _
      · have g0 : s[0] = 40 := by
          have := byte_neq (c := s[0]) (d := 40)
          rw [show ((40 : UInt8).toNat : Int) = 40 from rfl, t0] at this; simpa using this.symm
        have g1 : s[s.size - 1] = 41 := by
          have := byte_neq (c := s[s.size - 1]) (d := 41)
          rw [show ((41 : UInt8).toNat : Int) = 41 from rfl, t1] at this; simpa using this.symm
        have hTm : T = valsL ((s.data.toList.drop 1).dropLast) [] := by rw [← hT]; exact vals_mid (by omega) (by rw [e0, g0]) (by rw [e1, g1])
        obtain ⟨m, hm⟩ : ∃ m, s.extract 1 (s.size - 1) = m := ⟨_, rfl⟩
        have hmd : m.data.toList = (s.data.toList.drop 1).dropLast := by
          rw [← hm, ext_bs, bs_toList, List.dropLast_eq_take, List.length_drop, hsl]
          rw [List.drop_take]
        rw [← hmd] at hTm
        have hml : m.data.toList.length = m.size := by simp
        have hmz : m.size ≤ 65000 := by rw [← hml, hmd, List.length_dropLast, List.length_drop]; omega
        have HTM := box hTm
        clear hT e0 e1 g0 g1 hTm hmd hsl
        go_enter Tryz.func25, Tryz.ntmps25
        go_wp2
        go_loopw [4, 5] (fun v i wr => VaRel T m w v i wr) (fun _ i _ => m.size - (intOf i).toNat)
        case atStart => exact ⟨[], 0, rfl, Nat.zero_le _, Nat.le_refl _, by rw [List.drop_zero]; exact HTM.out, OwnS.nil _ _, Below.refl _ _⟩
        case round =>
          obtain ⟨acc, k, rfl, hk, hak, hTk, hO, hbel⟩ := hrel
          have O0 := box hO
          have BL := box hbel
          have HT := box hTk
          have hBw := hbel.size
          obtain ⟨av, cv, rfl, _, _⟩ := hO.ss
          rw [List.length_map] at O0 ⊢
          clear hO hbel hTk
          by_cases hlt : k < m.size
          · have hki : (k : Int) < (m.size : Int) := by omega
            have hkd : m.data.toList[k]'(by rw [hml]; exact hlt) = m[k] := rfl
            rcases hsp : ((m[k].toNat : Int) == 32) with _ | _
            · have HC32 : Box (m.data.toList[k]'(by rw [hml]; exact hlt) ≠ 32) := box (by rw [hkd]; exact byte_no (d := 32) hsp)
              rcases hqu : ((m[k].toNat : Int) == 34) with _ | _
              · have HC34 : Box (m.data.toList[k]'(by rw [hml]; exact hlt) ≠ 34) := box (by rw [hkd]; exact byte_no (d := 34) hqu)
                clear hkd
                go_wp2
                go_loop [5] (fun i => ∃ p : Nat, i = .int .i64 p ∧ k ≤ p ∧ p ≤ m.size ∧ Box (PAt m.data.toList k p)) (fun i => m.size - (intOf i).toNat)
                case atStart => exact ⟨k, rfl, Nat.le_refl _, hk, box (PAt.start _ _)⟩
                case round =>
                  obtain ⟨p, rfl, hkp, hp, HP⟩ := hrel
                  have hstop : (∀ (hi : p < m.data.toList.length), plainC m.data.toList[p] = false) → Box (p = k ∧ T = none ∨ k < p ∧ wordE (m.data.toList.drop k) = some ((m.data.toList.drop k).take (p - k), p - k)) := fun hst => box (by
                    have ht := HP.out.stop hst
                    by_cases e : p = k
                    · left
                      subst e
                      refine ⟨rfl, ?_⟩
                      rw [HT.out]
                      refine vals_at_none (by rw [hml]; exact hlt) HC32.out (word_no (by rw [hml]; exact hlt) HC34.out (hst _))
                    · right
                      refine ⟨by omega, word_bare (by rw [hml]; exact hlt) HC34.out ?_ hkp (by rw [hml]; exact hp) ht⟩
                      rcases hpk : plainC (m.data.toList[k]'(by rw [hml]; exact hlt)) with _ | _
                      · exfalso
                        rw [List.drop_eq_getElem_cons (by rw [hml]; exact hlt), List.takeWhile_cons_of_neg (by rw [hpk]; simp), show p - k = (p - k - 1) + 1 from by omega, List.take_succ_cons] at ht
                        cases ht
                      · rfl)
                  by_cases hpl : p < m.size
                  · have hpi : (p : Int) < (m.size : Int) := by omega
                    have hpd : m.data.toList[p]'(by rw [hml]; exact hpl) = m[p] := rfl
                    rcases hpc : plainC m[p] with _ | _
                    · have HPC := box hpc
                      have HS := hstop (fun hi => hpc)
                      clear hpc hpd hstop
                      go_wp2_with fail
                      refine (rPlain_is HPC).mono ?_; rintro e w1 ⟨rfl, rfl⟩
                      rcases HS.out with ⟨hpk, hTn⟩ | ⟨hpk, hwd⟩
                      · have HN := box hTn
                        clear hTn HS
                        subst hpk
                        have hkk : ((p : Int) == (p : Int)) = true := by simp
                        go_wp2
                        go_ret2
                        exact valW_none HN BL.out
                      · have hkk : ((p : Int) == (k : Int)) = false := by rw [beq_eq_false_iff_ne]; omega
                        have HW := box hwd
                        clear hwd HS
                        have ik : (0 : Int) ≤ (k : Int) := by omega
                        have ik2 : (k : Int) ≤ (p : Int) := by omega
                        have ip : (p : Int) ≤ (m.size : Int) := by omega
                        obtain ⟨ub, hub⟩ : ∃ ub, m.extract k p = ub := ⟨_, rfl⟩
                        have hud : bs ((m.data.toList.drop k).take (p - k)) = ub := by rw [← hub, ext_bs, List.drop_take]
                        obtain ⟨u, hu⟩ : ∃ u, (m.data.toList.drop k).take (p - k) = u := ⟨_, rfl⟩
                        rw [hu] at HW hud
                        have HX : Box ((acc ++ [u]).map bs = acc.map bs ++ [ub]) := box (by rw [List.map_append, List.map_cons, List.map_nil, hud])
                        have hm6 : Box ((acc.map bs).length ≤ 65536) := box (by rw [List.length_map]; omega)
                        clear hud hu
                        go_wp2_with (at_builtin; refine wpList_append_str _ rfl (.tmp 100) (.tmp 105) rfl w.heap.size _ (acc.map bs) rfl ?a21 _ _ rfl ub ?b21 ?c21 ?d21 ?_)
                        case a21 => exact own_below O0.out (below_new _ _)
                        case b21 => go_simp
                        case c21 => first | exact hm6.out | (have h := hm6.out; rw [List.length_map] at h; exact h)
                        case d21 => first | (simp; omega) | omega
                        intro v5 w5 hO5 hb5
                        have O5 : Box (OwnS w5 w.heap.size v5 ((acc ++ [u]).map bs)) := box (by rw [HX.out]; exact hO5)
                        have B5 := box ((BL.out.alloc hBw _).trans hb5)
                        clear hO5 hb5
                        have hpi : ((p : Nat) : Int) < (m.size : Int) := by omega
                        have hpd : m.data.toList[p]'(by rw [hml]; exact hpl) = m[p] := rfl
                        rcases h32 : (((m[p]).toNat : Int) != 32) with _ | _
                        · have HN : Box (T = valsL (m.data.toList.drop (p)) (acc ++ [u])) := box (by
                            rw [HT.out]
                            refine vals_at_word (by rw [hml]; exact hlt) HC32.out (by omega) HW.out (.inr ⟨by rw [hml]; exact hpl, ?_⟩)
                            rw [hpd]
                            have := byte_neq (c := m[p]) (d := 32)
                            rw [show ((32 : UInt8).toNat : Int) = 32 from rfl, h32] at this
                            simpa using this.symm)
                          clear hpd
                          go_wp2
                          go_roundw
                          case rel => exact ⟨acc ++ [u], p, by go_num, by omega, by rw [List.length_append]; simp only [List.length_cons, List.length_nil]; omega, HN.out, O5.out, B5.out⟩
                          case measure => simp [intOf]; omega
                        · have HN : Box (T = none) := box (by
                            rw [HT.out]
                            refine vals_at_bad (by rw [hml]; exact hlt) HC32.out (by omega) HW.out (by rw [hml]; exact hpl) ?_
                            rw [hpd]
                            have := byte_neq (c := m[p]) (d := 32)
                            rw [show ((32 : UInt8).toNat : Int) = 32 from rfl, h32] at this
                            simpa using this.symm)
                          clear hpd
                          go_wp2
                          go_ret2
                          exact valW_none HN B5.out
                    · have HPC := box hpc
                      have HN := box (HP.out.step hkp (by rw [hml]; exact hpl) (by rw [hpd]; exact hpc))
                      clear hpc hpd hstop
                      go_wp2_with fail
                      refine (rPlain_is HPC).mono ?_; rintro e w1 ⟨rfl, rfl⟩
                      go_wp2
                      go_round
                      case rel => exact ⟨p + 1, by go_num, by omega, by omega, HN⟩
                      case measure => simp [intOf]; omega
                  · have hpi : ¬ (p : Int) < (m.size : Int) := by omega
                    have HS := hstop (fun hi => by rw [hml] at hi; omega)
                    clear hstop
                    rcases HS.out with ⟨hpk, hTn⟩ | ⟨hpk, hwd⟩
                    · have HN := box hTn
                      clear hTn HS
                      subst hpk
                      have hkk : ((p : Int) == (p : Int)) = true := by simp
                      go_wp2
                      go_ret2
                      exact valW_none HN BL.out
                    · have hkk : ((p : Int) == (k : Int)) = false := by rw [beq_eq_false_iff_ne]; omega
                      have HW := box hwd
                      clear hwd HS
                      have ik : (0 : Int) ≤ (k : Int) := by omega
                      have ik2 : (k : Int) ≤ (p : Int) := by omega
                      have ip : (p : Int) ≤ (m.size : Int) := by omega
                      obtain ⟨ub, hub⟩ : ∃ ub, m.extract k p = ub := ⟨_, rfl⟩
                      have hud : bs ((m.data.toList.drop k).take (p - k)) = ub := by rw [← hub, ext_bs, List.drop_take]
                      obtain ⟨u, hu⟩ : ∃ u, (m.data.toList.drop k).take (p - k) = u := ⟨_, rfl⟩
                      rw [hu] at HW hud
                      have HX : Box ((acc ++ [u]).map bs = acc.map bs ++ [ub]) := box (by rw [List.map_append, List.map_cons, List.map_nil, hud])
                      have hm6 : Box ((acc.map bs).length ≤ 65536) := box (by rw [List.length_map]; omega)
                      clear hud hu
                      go_wp2_with (at_builtin; refine wpList_append_str _ rfl (.tmp 100) (.tmp 105) rfl w.heap.size _ (acc.map bs) rfl ?a22 _ _ rfl ub ?b22 ?c22 ?d22 ?_)
                      case a22 => exact own_below O0.out (below_new _ _)
                      try (case b22 => go_simp)
                      case c22 => first | exact hm6.out | (have h := hm6.out; rw [List.length_map] at h; exact h)
                      case d22 => first | (simp; omega) | omega
                      intro v5 w5 hO5 hb5
                      have O5 : Box (OwnS w5 w.heap.size v5 ((acc ++ [u]).map bs)) := box (by rw [HX.out]; exact hO5)
                      have B5 := box ((BL.out.alloc hBw _).trans hb5)
                      clear hO5 hb5
                      have hpi : ¬ ((p : Nat) : Int) < (m.size : Int) := by omega
                      have HN : Box (T = valsL (m.data.toList.drop (p)) (acc ++ [u])) := box (by
                        rw [HT.out]
                        exact vals_at_word (by rw [hml]; exact hlt) HC32.out (by omega) HW.out (.inl (by rw [hml]; omega)))
                      go_wp2
                      go_roundw
                      case rel => exact ⟨acc ++ [u], p, by go_num, by omega, by rw [List.length_append]; simp only [List.length_cons, List.length_nil]; omega, HN.out, O5.out, B5.out⟩
                      case measure => simp [intOf]; omega
              · have HC34 : Box (m.data.toList[k]'(by rw [hml]; exact hlt) = 34) := box (by rw [hkd]; exact byte_is (d := 34) hqu)
                clear hkd
                go_wp2
                go_loop [5] (fun i => ∃ p : Nat, i = .int .i64 p ∧ k + 1 ≤ p ∧ p ≤ m.size + 1 ∧ Box (QAt m.data.toList (k + 1) p)) (fun i => m.size + 1 - (intOf i).toNat)
                case atStart => exact ⟨k + 1, by go_num, Nat.le_refl _, by omega, box (QAt.start _ _)⟩
                case round =>
                  obtain ⟨p, rfl, hkp, hp, HP⟩ := hrel
                  by_cases hpl : p < m.size
                  · have hpi : (p : Int) < (m.size : Int) := by omega
                    have hpd : m.data.toList[p]'(by rw [hml]; exact hpl) = m[p] := rfl
                    rcases h34 : ((m[p].toNat : Int) != 34) with _ | _
                    · have g34 : m[p] = 34 := by
                        have := byte_neq (c := m[p]) (d := 34)
                        rw [show ((34 : UInt8).toNat : Int) = 34 from rfl, h34] at this; simpa using this.symm
                      have HQE := box (HP.out.hit hkp (by rw [hml]; exact hpl) (by rw [hpd]; exact g34))
                      clear g34 hpd
                      obtain ⟨x, hx⟩ : ∃ x, m.extract k (p + 1) = x := ⟨_, rfl⟩
                      have hxd : x.data.toList = (m.data.toList.drop k).take (p + 1 - (k + 1) + 1) := by
                        rw [← hx, ext_bs, bs_toList, List.drop_take]; congr 1; omega
                      have hxz : x.size ≤ 4294967296 := by rw [← hx, ByteArray.size_extract]; omega
                      have ik : (0 : Int) ≤ (k : Int) := by omega
                      have ik2 : (k : Int) ≤ (p : Int) + 1 := by omega
                      have ip : (p : Int) + 1 ≤ (m.size : Int) := by omega
                      rcases hu : unqL x.data.toList with _ | u
                      · have HU := box hu
                        have HN : Box (T = none) := box (by
                          rw [HT.out]
                          exact vals_at_none (by rw [hml]; exact hlt) HC32.out (word_quo0 (by rw [hml]; exact hlt) HC34.out HQE.out (by rw [← hxd]; exact hu)))
                        clear hu hxd
                        go_wp2_with fail
                        refine (rUnq_is hxz HU).mono ?_; rintro e w3 ⟨rfl, hb3⟩
                        have B3 := box (BL.out.trans (hb3.mono hBw))
                        unfold optV
                        clear hb3
                        go_wp2
                        go_ret2
                        exact valW_none HN B3.out
                      · have HU := box hu
                        obtain ⟨ub, hub⟩ : ∃ ub, bs u = ub := ⟨_, rfl⟩
                        have HW : Box (wordE (m.data.toList.drop k) = some (u, p + 1 - k)) := box (by
                          have := word_quo (u := u) (by rw [hml]; exact hlt) HC34.out HQE.out (by rw [← hxd]; exact hu)
                          rw [show p + 1 - k = p + 1 - (k + 1) + 1 from by omega]; exact this)
                        have HUB := box hub
                        have HX : Box ((acc ++ [u]).map bs = acc.map bs ++ [ub]) := box (by rw [List.map_append, List.map_cons, List.map_nil, hub])
                        have hm6 : Box ((acc.map bs).length ≤ 65536) := box (by rw [List.length_map]; omega)
                        clear hu hxd hub
                        go_wp2_with fail
                        refine (rUnq_is hxz HU).mono ?_; rintro e w3 ⟨rfl, hb3⟩
                        rw [show optV (some u) = .tuple #[.string (bs u), .bool true] from rfl, HUB.out]
                        have O3 := box (own_below O0.out hb3)
                        have B3 := box (BL.out.trans (hb3.mono hBw))
                        have hBw3 := Nat.le_trans hBw hb3.size
                        clear hb3
                        go_wp2_with (at_builtin; refine wpList_append_str _ rfl (.tmp 81) (.tmp 83) rfl w.heap.size _ (acc.map bs) rfl ?a1 _ _ rfl ub ?b1 ?c1 ?d1 ?_)
                        case a1 => exact own_below O3.out (below_new _ _)
                        case b1 => go_simp
                        case c1 => exact hm6.out
                        case d1 => simp; omega
                        intro v5 w5 hO5 hb5
                        have O5 : Box (OwnS w5 w.heap.size v5 ((acc ++ [u]).map bs)) := box (by rw [HX.out]; exact hO5)
                        have B5 := box ((B3.out.alloc hBw3 _).trans hb5)
                        clear hO5 hb5
                        by_cases hpl : p + 1 < m.size
                        · have hpi : ((p + 1 : Nat) : Int) < (m.size : Int) := by omega
                          have hpd : m.data.toList[p + 1]'(by rw [hml]; exact hpl) = m[p + 1] := rfl
                          rcases h32 : (((m[p + 1]).toNat : Int) != 32) with _ | _
                          · have HN : Box (T = valsL (m.data.toList.drop (p + 1)) (acc ++ [u])) := box (by
                              rw [HT.out]
                              refine vals_at_word (by rw [hml]; exact hlt) HC32.out (by omega) HW.out (.inr ⟨by rw [hml]; exact hpl, ?_⟩)
                              rw [hpd]
                              have := byte_neq (c := m[p + 1]) (d := 32)
                              rw [show ((32 : UInt8).toNat : Int) = 32 from rfl, h32] at this
                              simpa using this.symm)
                            clear hpd
                            go_wp2
                            go_roundw
                            case rel => exact ⟨acc ++ [u], p + 1, by go_num, by omega, by rw [List.length_append]; simp only [List.length_cons, List.length_nil]; omega, HN.out, O5.out, B5.out⟩
                            case measure => simp [intOf]; omega
                          · have HN : Box (T = none) := box (by
                              rw [HT.out]
                              refine vals_at_bad (by rw [hml]; exact hlt) HC32.out (by omega) HW.out (by rw [hml]; exact hpl) ?_
                              rw [hpd]
                              have := byte_neq (c := m[p + 1]) (d := 32)
                              rw [show ((32 : UInt8).toNat : Int) = 32 from rfl, h32] at this
                              simpa using this.symm)
                            clear hpd
                            go_wp2
                            go_ret2
                            exact valW_none HN B5.out
                        · have hpi : ¬ ((p + 1 : Nat) : Int) < (m.size : Int) := by omega
                          have HN : Box (T = valsL (m.data.toList.drop (p + 1)) (acc ++ [u])) := box (by
                            rw [HT.out]
                            exact vals_at_word (by rw [hml]; exact hlt) HC32.out (by omega) HW.out (.inl (by rw [hml]; omega)))
                          go_wp2
                          go_roundw
                          case rel => exact ⟨acc ++ [u], p + 1, by go_num, by omega, by rw [List.length_append]; simp only [List.length_cons, List.length_nil]; omega, HN.out, O5.out, B5.out⟩
                          case measure => simp [intOf]; omega
                    · have n34 : m[p] ≠ 34 := by
                        have := byte_neq (c := m[p]) (d := 34)
                        rw [show ((34 : UInt8).toNat : Int) = 34 from rfl, h34] at this; simpa using this.symm
                      rcases h92 : ((m[p].toNat : Int) == 92) with _ | _
                      · have HN := box (HP.out.any hkp (by rw [hml]; exact hpl) (by rw [hpd]; exact n34) (by rw [hpd]; exact byte_no (d := 92) h92))
                        clear n34 hpd
                        go_wp2
                        go_round
                        case rel => exact ⟨p + 1, by go_num, by omega, by omega, HN⟩
                        case measure => simp [intOf]; omega
                      · have HN := box (HP.out.esc hkp (by rw [hml]; exact hpl) (by rw [hpd]; exact byte_is (d := 92) h92))
                        clear n34 hpd
                        go_wp2
                        go_round
                        case rel => exact ⟨p + 2, by go_num, by omega, by omega, HN⟩
                        case measure => simp [intOf]; omega
                  · have hpi : ¬ (p : Int) < (m.size : Int) := by omega
                    have HN : Box (T = none) := box (by
                      rw [HT.out]
                      exact vals_at_none (by rw [hml]; exact hlt) HC32.out (word_quo1 (by rw [hml]; exact hlt) HC34.out (HP.out.fin (by rw [hml]; omega))))
                    go_wp2
                    go_ret2
                    exact valW_none HN BL.out
            · have HN : Box (T = valsL (m.data.toList.drop (k + 1)) acc) := box (by rw [HT.out]; exact vals_at_sp (by rw [hml]; exact hlt) (by rw [hkd]; exact byte_is (d := 32) hsp))
              clear hkd
              go_wp2
              go_roundw
              case rel => exact ⟨acc, k + 1, by go_num, by omega, by omega, HN.out, O0.out, BL.out⟩
              case measure => simp [intOf]; omega
          · have hki : ¬ (k : Int) < (m.size : Int) := by omega
            have HN : Box (T = some acc) := box (by rw [HT.out, List.drop_of_length_le (by rw [hml]; omega)]; rfl)
            go_wp2
            go_ret2
            exact ⟨_, by rw [HN.out]; rfl, by rw [HN.out]; exact O0.out, BL.out, fun h => by rw [HN.out] at h; cases h⟩
      · have HN : Box (T = none) := box (by
          rw [← hT]
          refine vals_last (by omega) ?_
          rw [e1]
          have := byte_neq (c := s[s.size - 1]) (d := 41)
          rw [show ((41 : UInt8).toNat : Int) = 41 from rfl, t1] at this; simpa using this.symm)
        clear hT e0 e1
        go_enter Tryz.func25, Tryz.ntmps25
        go_wp2
        go_ret2
        exact valW_none HN (Below.refl _ _)
    · have HN : Box (T = none) := box (by
        rw [← hT]
        refine vals_head (by omega) ?_
        rw [e0]
        have := byte_neq (c := s[0]) (d := 40)
        rw [show ((40 : UInt8).toNat : Int) = 40 from rfl, t0] at this; simpa using this.symm)
      clear hT e0 e1
      go_enter Tryz.func25, Tryz.ntmps25
      go_wp2
      go_ret2
      exact valW_none HN (Below.refl _ _)
end
section
open Go.RowKit
theorem heap_lt {w : World} {b : Nat} {o : Obj} (h : w.heap[b]? = some o) : b < w.heap.size := by
  rcases Nat.lt_or_ge b w.heap.size with q | q
  · exact q
  · rw [Array.getElem?_eq_none q] at h; cases h
/-- the cells of the axes L, the values' lists owned, too -/
def CellsA (w : World) (B : Nat) (cs : List Value) (L : List AX) : Prop :=
  cs.length = 2 * L.length ∧ (∀ u ∈ cs, u.oneCell' = true) ∧ ∀ i (h : i < L.length), cs[i * 2]? = some (.string L[i].1) ∧ ∃ u, cs[i * 2 + 1]? = some u ∧ OwnS w B u L[i].2
def OwnAx (w : World) (B : Nat) (v : Value) (L : List AX) : Prop := ∃ cs, w.ownsRow B 42 2 v L.length cs ∧ CellsA w B cs L
theorem OwnS.ssv {w : World} {B : Nat} {v : Value} {V : List ByteArray} (h : OwnS w B v V) : SsV w v V := by
  obtain ⟨a, c, e, hs, hc⟩ := h.ss
  exact ⟨a, c, e, hs, hc⟩
theorem OwnAx.nil (w : World) (B : Nat) : OwnAx w B (.slice none 0 0) [] := ⟨[], World.ownsRow_nil _ _ _ _, rfl, by simp, fun i h => absurd h (by simp)⟩
theorem CellsA.next {w w' : World} {B : Nat} {cs : List Value} {L : List AX} (h : CellsA w B cs L) (hb : Below w.heap.size w w') : CellsA w' B cs L :=
  ⟨h.1, h.2.1, fun i hi => by obtain ⟨h1, u, h2, h3⟩ := h.2.2 i hi; exact ⟨h1, u, h2, own_below h3 hb⟩⟩
theorem OwnAx.next {w w' : World} {B : Nat} {v : Value} {L : List AX} (h : OwnAx w B v L) (hb : Below w.heap.size w w') : OwnAx w' B v L := by
  obtain ⟨cs, h1, h2⟩ := h
  exact ⟨cs, own_below h1 hb, h2.next hb⟩
theorem own_grown {w w' : World} {B n : Nat} {v u : Value} {cs : List Value} {V : List ByteArray} (hv : w.ownsRow B 42 2 v n cs) (hu : OwnS w B u V) (hg : w.grownBy w' v.ownBlock) : OwnS w' B u V := by
  refine ⟨hu.1, ?_⟩
  rcases hu.2 with q | ⟨g, cap, cur, hv2, hB, hgg, r⟩
  · exact .inl q
  · refine .inr ⟨g, cap, cur, hv2, hB, ?_, r⟩
    rw [hg.block g (heap_lt hgg) (fun e => ?_)]
    · exact hgg
    · rcases hv.2 with ⟨rfl, _⟩ | ⟨g2, cap2, cur2, rfl, _, hg2, _⟩
      · simp [Value.ownBlock] at e
      · simp [Value.ownBlock] at e
        subst e
        rw [hgg] at hg2
        simp at hg2
theorem CellsA.grown {w w' : World} {B n : Nat} {v : Value} {xs cs : List Value} {L : List AX} (h : CellsA w B cs L) (hv : w.ownsRow B 42 2 v n xs) (hg : w.grownBy w' v.ownBlock) : CellsA w' B cs L :=
  ⟨h.1, h.2.1, fun i hi => by obtain ⟨h1, u, h2, h3⟩ := h.2.2 i hi; exact ⟨h1, u, h2, own_grown hv h3 hg⟩⟩
theorem CellsA.more {w : World} {B : Nat} {cs : List Value} {L : List AX} {n : ByteArray} {u : Value} {V : List ByteArray} (h : CellsA w B cs L) (hu : OwnS w B u V) : CellsA w B (cs ++ [.string n, u]) (L ++ [(n, V)]) := by
  have hone : u.oneCell' = true := by obtain ⟨a, c, e, _⟩ := hu.ss; rw [e]; rfl
  refine ⟨by rw [List.length_append, List.length_append, h.1]; simp; omega, fun x hx => ?_, fun i hi => ?_⟩
  · rcases List.mem_append.1 hx with q | q
    · exact h.2.1 x q
    · simp at q
      rcases q with rfl | rfl
      · rfl
      · exact hone
  · by_cases e : i < L.length
    · obtain ⟨h1, y, h2, h3⟩ := h.2.2 i e
      have hl := h.1
      rw [List.getElem_append_left e, List.getElem?_append_left (by omega), List.getElem?_append_left (by omega)]
      exact ⟨h1, y, h2, h3⟩
    · have hie : i = L.length := by rw [List.length_append] at hi; simp at hi; omega
      subst hie
      have hl := h.1
      rw [List.getElem_append_right (Nat.le_refl _), List.getElem?_append_right (by omega), List.getElem?_append_right (by omega)]
      rw [show L.length * 2 - cs.length = 0 from by omega, show L.length * 2 + 1 - cs.length = 1 from by omega]
      simp only [Nat.sub_self]
      exact ⟨rfl, u, rfl, hu⟩
end
section
open Go.RowKit
theorem rValues_none {s : ByteArray} {w : World} (hs : s.size ≤ 65000) (h : Box (valuesL s.data.toList = none)) :
    Calls Tryz.prog 25 #[.string s] w fun e w' => e = .returned (.tuple #[.slice none 0 0, .bool false]) ∧ Below w.heap.size w w' := by
  refine (rValues_any s w hs).mono ?_
  rintro e w' ⟨v, rfl, hO, hb, hn⟩
  rw [hn h.out, h.out]
  exact ⟨rfl, hb⟩
theorem rValues_some {s : ByteArray} {X : List (List UInt8)} {w : World} (hs : s.size ≤ 65000) (h : Box (valuesL s.data.toList = some X)) :
    Calls Tryz.prog 25 #[.string s] w fun e w' => ∃ v, e = .returned (.tuple #[v, .bool true]) ∧ OwnS w' w.heap.size v (X.map bs) ∧ Below w.heap.size w w' := by
  refine (rValues_any s w hs).mono ?_
  rintro e w' ⟨v, rfl, hO, hb, _⟩
  rw [h.out] at hO ⊢
  exact ⟨v, rfl, hO, hb⟩
theorem OwnAx.le {w : World} {B B' : Nat} {v : Value} {L : List AX} (h : OwnAx w B v L) (hB : B' ≤ B) : OwnAx w B' v L := by
  obtain ⟨cs, h1, h2⟩ := h
  exact ⟨cs, Go.Joins.ownsRow_le h1 hB, h2.1, h2.2.1, fun i hi => by obtain ⟨q1, u, q2, q3⟩ := h2.2.2 i hi; exact ⟨q1, u, q2, Go.Joins.ownsRow_le q3 hB⟩⟩
end
section
def chkR (n : Nat) : Bool := !(lettI (n : Int) || digitI (n : Int) || n == 45) || tokI (n : Int)
theorem chkR_all : ∀ x : Fin 256, chkR x.1 = true := by decide +kernel
theorem let_tok {c : UInt8} (h : lettI c.toNat = true ∨ digitI c.toNat = true ∨ c = 45) : tokI c.toNat = true := by
  have k := chkR_all ⟨c.toNat, c.toNat_lt⟩
  unfold chkR at k
  simp only at k
  rcases h with h | h | h
  · rw [h] at k; simpa using k
  · rw [h] at k; simpa using k
  · subst h; decide
theorem sub_char : ∀ (l : List UInt8), ∀ c ∈ l, c = 45 ∨ ∃ x ∈ subL l, c ∈ x
  | d :: r, c, hc => by
    obtain ⟨y, ys, e⟩ := subL_cons r
    have ih := sub_char r
    by_cases hd : d = 45
    · subst hd
      rw [subL_hyp]
      rcases List.mem_cons.1 hc with rfl | hc
      · exact .inl rfl
      · rcases ih c hc with q | ⟨x, hx, hcx⟩
        · exact .inl q
        · exact .inr ⟨x, by simp [hx], hcx⟩
    · rw [subL_chr hd e]
      rcases List.mem_cons.1 hc with rfl | hc
      · exact .inr ⟨_, List.mem_cons_self, by simp⟩
      · rcases ih c hc with q | ⟨x, hx, hcx⟩
        · exact .inl q
        · rw [e] at hx
          rcases List.mem_cons.1 hx with rfl | hx
          · exact .inr ⟨_, List.mem_cons_self, by simp [hcx]⟩
          · exact .inr ⟨x, by simp [hx], hcx⟩
theorem subOk_char {f : Bool} {x : List UInt8} (h : subOk f x = true) : ∀ c ∈ x, lettI c.toNat = true ∨ digitI c.toNat = true := by
  unfold subOk at h
  rw [Bool.and_eq_true, List.all_eq_true] at h
  intro c hc
  have := h.2 c hc
  rw [Bool.or_eq_true, Bool.and_eq_true] at this
  rcases this with q | ⟨_, q⟩
  · exact .inl q
  · exact .inr q
theorem subs_each {L : List (List UInt8)} (h : subsOk L = true) : ∀ x ∈ L, ∃ f, subOk f x = true := by
  match L, h with
  | [], _ => intro x hx; cases hx
  | y :: ys, h =>
    have h' : (subOk true y && ys.all (subOk false)) = true := h
    rw [Bool.and_eq_true, List.all_eq_true] at h'
    intro x hx
    rcases List.mem_cons.1 hx with rfl | hx
    · exact ⟨true, h'.1⟩
    · exact ⟨false, h'.2 x hx⟩
theorem range_tok {l : List UInt8} (h : rangeT l = true) : tokL l = true := by
  unfold rangeT at h
  rw [Bool.or_eq_true, decide_eq_true_eq] at h
  rcases h with rfl | h
  · decide +kernel
  · unfold tagL at h
    refine tok_mk ?_ fun c hc => ?_
    · intro e; subst e
      have : subsOk (subL []) = false := by decide +kernel
      rw [this] at h; cases h
    · rcases sub_char l c hc with q | ⟨x, hx, hcx⟩
      · exact let_tok (.inr (.inr q))
      · obtain ⟨f, hf⟩ := subs_each h x hx
        rcases subOk_char hf c hcx with q | q
        · exact let_tok (.inl q)
        · exact let_tok (.inr (.inl q))
theorem joinC_len13 : ∀ (ms : List (List UInt8)) (n : Nat), (∀ m ∈ ms, m.length ≤ n) → (joinC ms).length ≤ ms.length * (n + 2)
  | [], n, _ => Nat.zero_le _
  | [m], n, h => by have := h m (by simp); show m.length ≤ 1 * (n + 2); omega
  | m :: y :: r, n, h => by
    have ih := joinC_len13 (y :: r) n (fun x hx => h x (by simp [hx]))
    have h1 := h m (by simp)
    have e : (joinC (m :: y :: r)).length = m.length + 2 + (joinC (y :: r)).length := by
      show (m ++ [44, 32] ++ joinC (y :: r)).length = _
      rw [List.length_append, List.length_append]; rfl
    have e2 : (m :: y :: r).length * (n + 2) = (y :: r).length * (n + 2) + (n + 2) := by
      rw [List.length_cons, Nat.add_mul, Nat.one_mul]
    rw [e, e2]; omega
end
end Go.Proofs.YtcnohcbhnldglaaGreat.Asc
