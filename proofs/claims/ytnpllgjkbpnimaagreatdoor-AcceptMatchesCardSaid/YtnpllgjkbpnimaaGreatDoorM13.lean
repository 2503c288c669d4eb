/- Merged texts: LanMT LanSpec3 LanMM CodMine QvaRef2 QvaSpec2. -/
import Derived.Test.YtnpllgjkbpnimaaGreatDoorM01
import Derived.Test.YtnpllgjkbpnimaaGreatDoorM02
import Derived.Test.YtnpllgjkbpnimaaGreatDoorM03
import Derived.Test.YtnpllgjkbpnimaaGreatDoorM07
import Derived.Test.YtnpllgjkbpnimaaGreatDoorM09
import Derived.Test.YtnpllgjkbpnimaaGreatDoorM10
set_option linter.unusedVariables false
set_option linter.unusedSimpArgs false
set_option maxRecDepth 100000
namespace Go.Proofs.YtnpllgjkbpnimaaGreatDoor.Asc
section
open Go.RowKit
theorem mLetter_any (b : Int) (w : World) (h0 : 0 ≤ b) (h1 : b ≤ 255) :
    Calls Tryz.prog 54 #[.int .u8 b] w fun e w' => e = .returned (.bool (lettI b)) ∧ w = w' := by
  go_enter Tryz.func54, Tryz.ntmps54
  go_wp2
  all_goals (go_ret; exact ⟨ret_bool (by rw [Bool.eq_iff_iff]; simp [lettI]; omega), rfl⟩)
theorem mLetterC (c : UInt8) (w : World) :
    Calls Tryz.prog 54 #[.int .u8 (c.toNat : Int)] w fun e w' => e = .returned (.bool (chOk true c)) ∧ w = w' :=
  (mLetter_any _ w (c_bd c).1 (c_bd c).2).mono fun e w' ⟨h1, h2⟩ => ⟨by rw [h1]; unfold chOk; rw [Bool.not_true, Bool.false_and, Bool.or_false], h2⟩
theorem mLetter_is {c : UInt8} {q : Bool} {w : World} (h : Box (lettI (c.toNat : Int) = q)) :
    Calls Tryz.prog 54 #[.int .u8 (c.toNat : Int)] w fun e w' => e = .returned (.bool q) ∧ w = w' :=
  (mLetter_any _ w (c_bd c).1 (c_bd c).2).mono fun e w' ⟨h1, h2⟩ => ⟨by rw [h1, h.out], h2⟩
theorem mLetDigC (c : UInt8) (w : World) :
    Calls Tryz.prog 55 #[.int .u8 (c.toNat : Int)] w fun e w' => e = .returned (.bool (chOk false c)) ∧ w = w' := by
  have hb := c_bd c
  have HD : Box (∀ b : Int, digitI b = decide (48 ≤ b ∧ b ≤ 57)) := box (fun _ => rfl)
  cases hl : lettI (c.toNat : Int) with
  | true =>
    have HL := box hl
    have HV : Box (chOk false c = true) := box (by unfold chOk; rw [hl]; rfl)
    clear hl
    go_enter Tryz.func55, Tryz.ntmps55
    go_wp2_with fail
    refine (mLetter_is HL).mono ?_; rintro e w1 ⟨rfl, rfl⟩
    go_wp2
    go_ret
    exact ⟨ret_bool HV.out.symm, rfl⟩
  | false =>
    have HL := box hl
    have HV : Box (chOk false c = digitI (c.toNat : Int)) := box (by unfold chOk; rw [hl]; rfl)
    clear hl
    go_enter Tryz.func55, Tryz.ntmps55
    go_wp2_with fail
    refine (mLetter_is HL).mono ?_; rintro e w1 ⟨rfl, rfl⟩
    go_wp2
    all_goals (go_ret; exact ⟨ret_bool (by rw [HV.out, HD.out, Bool.eq_iff_iff]; simp; omega), rfl⟩)
theorem mIsSub_true (s : ByteArray) (w : World) (hs : s.size ≤ 65000) :
    Calls Tryz.prog 53 #[.string s, .func (.func 54) #[] #[]] w fun e w' => e = .returned (.bool (subOk true s.data.toList)) ∧ w = w' := by
  have hz : s.data.toList.length = s.size := by simp
  have HE : Box (s.toList = s.data.toList) := box (toList_data s)
  by_cases h0 : s.size = 0
  · have hse : (s.toList.isEmpty) = true := by rw [HE.out]; cases hl : s.data.toList with
      | nil => rfl
      | cons a b => rw [hl] at hz; simp at hz; omega
    have hse2 : s.toList = [] := by rw [List.isEmpty_iff] at hse; exact hse
    have HV : Box (subOk true s.data.toList = false) := box (sub_size (.inl (by omega)))
    clear hz
    go_enter Tryz.func53, Tryz.ntmps53
    go_wp2
    go_ret
    exact ⟨ret_bool HV.out.symm, rfl⟩
  · have hse : (s.toList.isEmpty) = false := by rw [HE.out]; cases hl : s.data.toList with
      | nil => rw [hl] at hz; simp at hz; omega
      | cons a b => rfl
    have hse2 : ¬ s.toList = [] := by rw [List.isEmpty_eq_false_iff] at hse; exact hse
    by_cases h8 : 8 < s.size
    · have HV : Box (subOk true s.data.toList = false) := box (sub_size (.inr (by omega)))
      have h8i : (8 : Int) < (s.size : Int) := by omega
      clear hz
      go_enter Tryz.func53, Tryz.ntmps53
      go_wp2
      go_ret
      exact ⟨ret_bool HV.out.symm, rfl⟩
    · have HV : Box (subOk true s.data.toList = s.data.toList.all (chOk true)) := box (sub_chars (by omega) (by omega))
      have h8i : ¬ (8 : Int) < (s.size : Int) := by omega
      clear hz
      go_enter Tryz.func53, Tryz.ntmps53
      go_wp2
      go_loop [5, 15] (fun _ m => TagI s true m) (fun _ m => s.size - (intOf m).toNat)
      case atStart => exact ⟨0, rfl, Nat.zero_le _, rfl⟩
      case round =>
        obtain ⟨m, rfl, hm, hc⟩ := hrel
        have HM := box hc
        clear hc
        by_cases hml : m < s.size
        · have hmi : (m : Int) < (s.size : Int) := by omega
          obtain ⟨c, hcq⟩ : ∃ c, s[m] = c := ⟨_, rfl⟩
          cases hk : chOk true c with
          | true =>
            have HN := box (allC_more HM.out hml (by rw [hcq, hk]))
            have HK := box hk
            clear hk
            go_wp2_with fail
            refine (mLetterC _ _).mono ?_; rintro e w1 ⟨rfl, rfl⟩
            rw [HK.out]
            go_wp2
            go_round
            case rel => exact ⟨m + 1, by go_num, hml, HN.out⟩
            case measure => simp [intOf]; omega
          | false =>
            have HN : Box (subOk true s.data.toList = false) := box (by rw [HV.out]; exact allC_not hml (by rw [hcq, hk]))
            have HK := box hk
            clear hk
            go_wp2_with fail
            refine (mLetterC _ _).mono ?_; rintro e w1 ⟨rfl, rfl⟩
            rw [HK.out]
            go_wp2
            go_ret
            exact ⟨ret_bool HN.out.symm, rfl⟩
        · have hmi : ¬ (m : Int) < (s.size : Int) := by omega
          have HN : Box (subOk true s.data.toList = true) := box (by
            have h := HM.out
            rw [List.take_of_length_le (by simp; omega)] at h
            rw [HV.out, h])
          go_wp2
          go_ret
          exact ⟨ret_bool HN.out.symm, rfl⟩
theorem mIsSub_false (s : ByteArray) (w : World) (hs : s.size ≤ 65000) :
    Calls Tryz.prog 53 #[.string s, .func (.func 55) #[] #[]] w fun e w' => e = .returned (.bool (subOk false s.data.toList)) ∧ w = w' := by
  have hz : s.data.toList.length = s.size := by simp
  have HE : Box (s.toList = s.data.toList) := box (toList_data s)
  by_cases h0 : s.size = 0
  · have hse : (s.toList.isEmpty) = true := by rw [HE.out]; cases hl : s.data.toList with
      | nil => rfl
      | cons a b => rw [hl] at hz; simp at hz; omega
    have hse2 : s.toList = [] := by rw [List.isEmpty_iff] at hse; exact hse
    have HV : Box (subOk false s.data.toList = false) := box (sub_size (.inl (by omega)))
    clear hz
    go_enter Tryz.func53, Tryz.ntmps53
    go_wp2
    go_ret
    exact ⟨ret_bool HV.out.symm, rfl⟩
  · have hse : (s.toList.isEmpty) = false := by rw [HE.out]; cases hl : s.data.toList with
      | nil => rw [hl] at hz; simp at hz; omega
      | cons a b => rfl
    have hse2 : ¬ s.toList = [] := by rw [List.isEmpty_eq_false_iff] at hse; exact hse
    by_cases h8 : 8 < s.size
    · have HV : Box (subOk false s.data.toList = false) := box (sub_size (.inr (by omega)))
      have h8i : (8 : Int) < (s.size : Int) := by omega
      clear hz
      go_enter Tryz.func53, Tryz.ntmps53
      go_wp2
      go_ret
      exact ⟨ret_bool HV.out.symm, rfl⟩
    · have HV : Box (subOk false s.data.toList = s.data.toList.all (chOk false)) := box (sub_chars (by omega) (by omega))
      have h8i : ¬ (8 : Int) < (s.size : Int) := by omega
      clear hz
      go_enter Tryz.func53, Tryz.ntmps53
      go_wp2
      go_loop [5, 15] (fun _ m => TagI s false m) (fun _ m => s.size - (intOf m).toNat)
      case atStart => exact ⟨0, rfl, Nat.zero_le _, rfl⟩
      case round =>
        obtain ⟨m, rfl, hm, hc⟩ := hrel
        have HM := box hc
        clear hc
        by_cases hml : m < s.size
        · have hmi : (m : Int) < (s.size : Int) := by omega
          obtain ⟨c, hcq⟩ : ∃ c, s[m] = c := ⟨_, rfl⟩
          cases hk : chOk false c with
          | true =>
            have HN := box (allC_more HM.out hml (by rw [hcq, hk]))
            have HK := box hk
            clear hk
            go_wp2_with fail
            refine (mLetDigC _ _).mono ?_; rintro e w1 ⟨rfl, rfl⟩
            rw [HK.out]
            go_wp2
            go_round
            case rel => exact ⟨m + 1, by go_num, hml, HN.out⟩
            case measure => simp [intOf]; omega
          | false =>
            have HN : Box (subOk false s.data.toList = false) := box (by rw [HV.out]; exact allC_not hml (by rw [hcq, hk]))
            have HK := box hk
            clear hk
            go_wp2_with fail
            refine (mLetDigC _ _).mono ?_; rintro e w1 ⟨rfl, rfl⟩
            rw [HK.out]
            go_wp2
            go_ret
            exact ⟨ret_bool HN.out.symm, rfl⟩
        · have hmi : ¬ (m : Int) < (s.size : Int) := by omega
          have HN : Box (subOk false s.data.toList = true) := box (by
            have h := HM.out
            rw [List.take_of_length_le (by simp; omega)] at h
            rw [HV.out, h])
          go_wp2
          go_ret
          exact ⟨ret_bool HN.out.symm, rfl⟩
theorem mIsSub1_is {s : ByteArray} {q : Bool} {w : World} (hs : s.size ≤ 65000) (h : Box (subOk true s.data.toList = q)) :
    Calls Tryz.prog 53 #[.string s, .func (.func 54) #[] #[]] w fun e w' => e = .returned (.bool q) ∧ w = w' :=
  (mIsSub_true s w hs).mono fun e w' ⟨h1, h2⟩ => ⟨by rw [h1, h.out], h2⟩
theorem mIsSub0_is {s : ByteArray} {q : Bool} {w : World} (hs : s.size ≤ 65000) (h : Box (subOk false s.data.toList = q)) :
    Calls Tryz.prog 53 #[.string s, .func (.func 55) #[] #[]] w fun e w' => e = .returned (.bool q) ∧ w = w' :=
  (mIsSub_false s w hs).mono fun e w' ⟨h1, h2⟩ => ⟨by rw [h1, h.out], h2⟩
/-- what is left to be judged: the pieces of t, if there is a piece at all -/
def moreT (more : Bool) (t : List UInt8) : Bool := !more || (subL t).all (subOk false)
theorem cut_sub (l : List UInt8) : subL l = cut1 45 l :: (if cutB 45 l = true then subL (cut2 45 l) else []) := by
  by_cases h : cutB 45 l = true
  · rw [if_pos h]
    conv => lhs; rw [cut_join h]
    exact sub_at (cut1_not 45 l)
  · rw [if_neg h]
    have h2 : cutB 45 l = false := by cases e : cutB 45 l with
      | true => exact absurd e h
      | false => rfl
    have hn : (45 : UInt8) ∉ l := by simpa [cutB] using h2
    have e : Lib.indexByte l 45 = -1 := by
      by_cases q : Lib.indexByte l 45 = -1
      · exact q
      · exfalso
        obtain ⟨k, hk⟩ : ∃ k : Nat, Lib.indexByte l 45 = k := ⟨(Lib.indexByte l 45).toNat, by have := Lib.indexByte_ge l 45; omega⟩
        have := (cut_at hk).2.2.2
        rw [h2] at this; cases this
    rw [(cut_no e).1, sub_no hn]
theorem tag_cut (l : List UInt8) : tagL l = (subOk true (cut1 45 l) && moreT (cutB 45 l) (cut2 45 l)) := by
  unfold tagL moreT
  rw [cut_sub l]
  show (subOk true (cut1 45 l) && _) = _
  congr 1
  cases cutB 45 l <;> rfl
theorem more_cut (l : List UInt8) : moreT true l = (subOk false (cut1 45 l) && moreT (cutB 45 l) (cut2 45 l)) := by
  unfold moreT
  rw [Bool.not_true, Bool.false_or, cut_sub l, List.all_cons]
  congr 1
  cases cutB 45 l <;> rfl
theorem cut_small45 (l : List UInt8) : (cut1 45 l).length ≤ l.length ∧ (cut2 45 l).length ≤ l.length ∧ (cutB 45 l = true → (cut2 45 l).length < l.length) := by
  refine ⟨(List.takeWhile_prefix _).length_le, ?_, ?_⟩
  · unfold cut2; have := (List.dropWhile_suffix (l := l) (fun x => x != (45 : UInt8))).length_le; simp; omega
  · intro h; have := congrArg List.length (cut_join h); rw [List.length_append, List.length_cons] at this; omega
/-- the loop over the pieces: rest and more -/
def MtR (m : Bool) (n : Nat) (W : World) (t b : Value) (wr : World) : Prop :=
  ∃ (r : ByteArray) (q : Bool), t = .string r ∧ b = .bool q ∧ r.size ≤ n ∧ moreT q r.data.toList = m ∧ Below W.heap.size W wr
def boolV : Value → Bool
  | .bool b => b
  | _ => false
set_option maxHeartbeats 1000000 in
theorem mTag_any (s : ByteArray) (w : World) (hs : s.size ≤ 65000) :
    Calls Tryz.prog 28 #[.string s] w fun e w' => e = .returned (.bool (tagL s.data.toList)) ∧ Below w.heap.size w w' := by
  obtain ⟨v, hv⟩ : ∃ v, tagL s.data.toList = v := ⟨_, rfl⟩
  have hT := tag_cut s.data.toList
  have hC := cut_small45 s.data.toList
  have hz : s.data.toList.length = s.size := by simp
  have hsm : s.size ≤ maxLen := by unfold maxLen; omega
  rw [hv] at hT
  have HCV : Box (cutV 45 s.data.toList = .tuple #[.string (bs (cut1 45 s.data.toList)), .string (bs (cut2 45 s.data.toList)), .bool (cutB 45 s.data.toList)]) := box rfl
  obtain ⟨x, hx⟩ : ∃ x, cut1 45 s.data.toList = x := ⟨_, rfl⟩
  obtain ⟨y, hy⟩ : ∃ y, cut2 45 s.data.toList = y := ⟨_, rfl⟩
  obtain ⟨b, hb⟩ : ∃ b, cutB 45 s.data.toList = b := ⟨_, rfl⟩
  rw [hx, hy, hb] at HCV
  rw [hx, hy, hb] at hT
  rw [hx, hy] at hC
  have hxz : (bs x).size ≤ 65000 := by rw [bs_size]; omega
  have hyz : (bs y).size ≤ 65000 := by rw [bs_size]; omega
  have HV : Box (∀ q, subOk true x = q → v = (q && moreT b y)) := box (fun q hq => by rw [← hq, hT])
  have HVV := box hv
  rw [hv]
  clear hx hy hb hv hT hC hz
  go_enter Tryz.func28, Tryz.ntmps28
  go_wp2_with fail
  refine (Cut_any s 45 _ hsm).mono ?_; rintro e w1 ⟨rfl, hb1⟩
  rw [HCV.out]
  have B1 := box hb1
  clear hb1
  cases hq : subOk true x with
  | false =>
    have HQ : Box (subOk true (bs x).data.toList = false) := box hq
    have HR : Box (v = false) := box (by rw [HV.out _ hq]; rfl)
    clear hq
    go_wp2_with fail
    refine (mIsSub1_is hxz HQ).mono ?_; rintro e w2 ⟨rfl, rfl⟩
    go_wp2
    go_ret
    exact ⟨ret_bool HR.out.symm, B1.out⟩
  | true =>
    have HQ : Box (subOk true (bs x).data.toList = true) := box hq
    have HR : Box (moreT b (bs y).data.toList = v) := box (by rw [HV.out _ hq]; rfl)
    clear hq
    go_wp2_with fail
    refine (mIsSub1_is hxz HQ).mono ?_; rintro e w2 ⟨rfl, rfl⟩
    go_wp2
    go_loopw [4, 5, 6] (fun t q _ wr => MtR v 65000 w1 t q wr) (fun t q _ _ => (strLen t) + (if boolV q = true then 1 else 0))
    case atStart => exact ⟨bs y, b, rfl, rfl, hyz, HR.out, Below.refl _ _⟩
    case round =>
      obtain ⟨r, q, rfl, rfl, hr, hm, hbel⟩ := hrel
      have BL := box hbel
      have HM := box hm
      clear hm hbel
      cases q with
      | false =>
        have HF : Box (v = true) := box (by rw [← HM.out]; rfl)
        go_wp2
        go_ret
        exact ⟨ret_bool HF.out.symm, B1.out.trans (BL.out.mono B1.out.size)⟩
      | true =>
        have hT := more_cut r.data.toList
        rw [HM.out] at hT
        have hC := cut_small45 r.data.toList
        have hz : r.data.toList.length = r.size := by simp
        have hrm : r.size ≤ maxLen := by unfold maxLen; omega
        have HCV : Box (cutV 45 r.data.toList = .tuple #[.string (bs (cut1 45 r.data.toList)), .string (bs (cut2 45 r.data.toList)), .bool (cutB 45 r.data.toList)]) := box rfl
        obtain ⟨x', hx⟩ : ∃ x', cut1 45 r.data.toList = x' := ⟨_, rfl⟩
        obtain ⟨y', hy⟩ : ∃ y', cut2 45 r.data.toList = y' := ⟨_, rfl⟩
        obtain ⟨b', hb⟩ : ∃ b', cutB 45 r.data.toList = b' := ⟨_, rfl⟩
        rw [hx, hy, hb] at HCV
        rw [hx, hy, hb] at hT
        rw [hx, hy, hb] at hC
        have hxz' : (bs x').size ≤ 65000 := by rw [bs_size]; omega
        have hyz' : (bs y').size ≤ 65000 := by rw [bs_size]; omega
        have HY : Box ((bs y').size + (if b' = true then 1 else 0) < r.size + 1) := box (by
          rw [bs_size]
          cases b' with
          | true => have := hC.2.2 rfl; simp; omega
          | false => simp; omega)
        have HV2 : Box (∀ q, subOk false x' = q → v = (q && moreT b' y')) := box (fun q hq => by rw [← hq, hT])
        clear hx hy hb hT hC hz
        go_wp2_with fail
        refine (Cut_any r 45 _ hrm).mono ?_; rintro e w3 ⟨rfl, hb3⟩
        rw [HCV.out]
        have B3 := box (BL.out.trans (hb3.mono BL.out.size))
        clear hb3
        cases hq : subOk false x' with
        | false =>
          have HQ : Box (subOk false (bs x').data.toList = false) := box hq
          have HR : Box (v = false) := box (by rw [HV2.out _ hq]; rfl)
          clear hq
          go_wp2_with fail
          refine (mIsSub0_is hxz' HQ).mono ?_; rintro e w2 ⟨rfl, rfl⟩
          go_wp2
          go_ret
          exact ⟨ret_bool HR.out.symm, B1.out.trans (B3.out.mono B1.out.size)⟩
        | true =>
          have HQ : Box (subOk false (bs x').data.toList = true) := box hq
          have HR : Box (moreT b' (bs y').data.toList = v) := box (by rw [HV2.out _ hq]; rfl)
          clear hq
          go_wp2_with fail
          refine (mIsSub0_is hxz' HQ).mono ?_; rintro e w2 ⟨rfl, rfl⟩
          go_wp2
          go_roundw
          case rel => exact ⟨bs y', b', rfl, rfl, hyz', HR.out, B3.out⟩
          case measure => exact HY.out
theorem mTagM_is {s : ByteArray} {b : Bool} {w : World} (hs : s.size ≤ 65000) (h : Box (tagL s.data.toList = b)) :
    Calls Tryz.prog 28 #[.string s] w fun e w' => e = .returned (.bool b) ∧ Below w.heap.size w w' :=
  (mTag_any s w hs).mono fun e w' ⟨h1, h2⟩ => ⟨by rw [h1, h.out], h2⟩
theorem mRangeT_any (s : ByteArray) (w : World) (hs : s.size ≤ 65000) :
    Calls Tryz.prog 27 #[.string s] w fun e w' => e = .returned (.bool (rangeT s.data.toList)) ∧ Below w.heap.size w w' := by
  have hst := star_list (s := s)
  by_cases h : s.data.toList = [42]
  · rw [decide_eq_true h] at hst
    have HV : Box (rangeT s.data.toList = true) := box (by unfold rangeT; rw [decide_eq_true h, Bool.true_or])
    clear h
    go_enter Tryz.func27, Tryz.ntmps27
    go_wp2
    go_ret
    exact ⟨ret_bool HV.out.symm, Below.refl _ _⟩
  · rw [decide_eq_false h] at hst
    have HV : Box (rangeT s.data.toList = tagL s.data.toList) := box (by unfold rangeT; rw [decide_eq_false h, Bool.false_or])
    clear h
    go_enter Tryz.func27, Tryz.ntmps27
    go_wp2_with fail
    refine (mTag_any s _ hs).mono ?_; rintro e w1 ⟨rfl, hb1⟩
    go_wp2
    go_ret
    exact ⟨ret_bool HV.out.symm, hb1⟩
end
section
def chkL (n : Nat) : Bool := ((lowB (UInt8.ofNat n) == 45) == (UInt8.ofNat n == 45)) && ((lowB (UInt8.ofNat n) == 42) == (UInt8.ofNat n == 42)) && (lettI (lowB (UInt8.ofNat n)).toNat == lettI (n : Int)) && (digitI (lowB (UInt8.ofNat n)).toNat == digitI (n : Int))
theorem chkL_all : ∀ x : Fin 256, chkL x.1 = true := by decide +kernel
theorem low_more (c : UInt8) : (lowB c = 45 ↔ c = 45) ∧ (lowB c = 42 ↔ c = 42) ∧ lettI (lowB c).toNat = lettI c.toNat ∧ digitI (lowB c).toNat = digitI c.toNat := by
  have k := chkL_all ⟨c.toNat, c.toNat_lt⟩
  unfold chkL at k
  simp only [UInt8.ofNat_toNat, Bool.and_eq_true, beq_iff_eq] at k
  obtain ⟨⟨⟨k1, k2⟩, k3⟩, k4⟩ := k
  exact ⟨by rw [← beq_iff_eq, k1, beq_iff_eq], by rw [← beq_iff_eq, k2, beq_iff_eq], k3, k4⟩
theorem lowL_cons (c : UInt8) (r : List UInt8) : lowL (c :: r) = lowB c :: lowL r := rfl
end
section
open Go.RowKit
/-- does t begin with the subtags r? byte by byte -/
def begL : List UInt8 → List UInt8 → Bool
  | [], [] => true
  | [], d :: _ => decide (d = 45)
  | _ :: _, [] => false
  | c :: r, d :: t => decide (lowB c = lowB d) && begL r t
theorem fold_nil (y : List UInt8) : foldL [] y = decide (y = []) := by
  unfold foldL
  cases y with
  | nil => rfl
  | cons d y => rw [lowL_cons]; rfl
theorem fold_cons (c d : UInt8) (x y : List UInt8) : foldL (c :: x) (d :: y) = (decide (lowB c = lowB d) && foldL x y) := by
  unfold foldL
  rw [lowL_cons, lowL_cons, Bool.eq_iff_iff]
  simp
theorem fold_one (c : UInt8) (x : List UInt8) : foldL (c :: x) [] = false := by
  unfold foldL
  rw [lowL_cons]; rfl
theorem pref_beg : ∀ r t : List UInt8, prefS (subL r) (subL t) = begL r t
  | [], [] => rfl
  | [], d :: t => by
    show prefS [[]] (subL (d :: t)) = decide (d = 45)
    by_cases hd : d = 45
    · subst hd; rw [subL_hyp]; rfl
    · obtain ⟨y, ys, e⟩ := subL_cons t
      rw [subL_chr hd e, decide_eq_false hd]
      show (foldL [] (d :: y) && _) = false
      rw [fold_nil]; rfl
  | c :: r, [] => by
    obtain ⟨x, xs, e⟩ := subL_cons r
    show prefS (subL (c :: r)) [[]] = false
    by_cases hc : c = 45
    · subst hc; rw [subL_hyp, e]; rfl
    · rw [subL_chr hc e]
      show (foldL (c :: x) [] && _) = false
      rw [fold_one]; rfl
  | c :: r, d :: t => by
    have ih := pref_beg r t
    obtain ⟨x, xs, e⟩ := subL_cons r
    obtain ⟨y, ys, e2⟩ := subL_cons t
    show _ = (decide (lowB c = lowB d) && begL r t)
    by_cases hc : c = 45
    · subst hc
      rw [subL_hyp]
      by_cases hd : d = 45
      · subst hd
        rw [subL_hyp, ← ih]; rfl
      · have hn : ¬ lowB 45 = lowB d := by
          intro q
          have : lowB (45 : UInt8) = 45 := by decide +kernel
          rw [this] at q
          exact hd ((low_more d).1.1 q.symm)
        rw [subL_chr hd e2, decide_eq_false hn, Bool.false_and]
        show (foldL [] (d :: y) && _) = false
        rw [fold_nil]; rfl
    · rw [subL_chr hc e]
      by_cases hd : d = 45
      · subst hd
        have hn : ¬ lowB c = lowB 45 := by
          intro q
          have : lowB (45 : UInt8) = 45 := by decide +kernel
          rw [this] at q
          exact hc ((low_more c).1.1 q)
        rw [subL_hyp, decide_eq_false hn, Bool.false_and]
        show (foldL (c :: x) [] && _) = false
        rw [fold_one]; rfl
      · rw [subL_chr hd e2]
        show (foldL (c :: x) (d :: y) && prefS xs ys) = _
        rw [fold_cons, Bool.and_assoc]
        rw [e, e2] at ih
        rw [← ih]; rfl
theorem beg_short : ∀ {r t : List UInt8}, t.length < r.length → begL r t = false
  | [], _, h => absurd h (Nat.not_lt_zero _)
  | _ :: _, [], _ => rfl
  | c :: r, d :: t, h => by show (_ && begL r t) = false; rw [beg_short (by simpa using h), Bool.and_false]
theorem beg_at : ∀ {r t : List UInt8}, r.length ≤ t.length → begL r t = (foldL (t.take r.length) r && (decide (t.length = r.length) || decide (t.getD r.length 0 = 45)))
  | [], [], _ => rfl
  | [], d :: t, _ => by simp [begL, fold_nil]
  | _ :: _, [], h => by simp at h
  | c :: r, d :: t, h => by
    have ih := beg_at (r := r) (t := t) (by simpa using h)
    have e1 : decide (lowB d = lowB c) = decide (lowB c = lowB d) := decide_eq_decide.2 eq_comm
    have e2 : decide ((d :: t).length = (c :: r).length) = decide (t.length = r.length) := decide_eq_decide.2 (by rw [List.length_cons, List.length_cons]; omega)
    have e3 : (d :: t).getD (c :: r).length 0 = t.getD r.length 0 := rfl
    have e4 : (d :: t).take (c :: r).length = d :: t.take r.length := rfl
    rw [e2, e3, e4, fold_cons, e1, Bool.and_assoc, ← ih]; rfl
theorem count_sub : ∀ l : List UInt8, (subL l).length = Lib.countByte l 45 + 1
  | [] => rfl
  | c :: r => by
    have ih := count_sub r
    obtain ⟨x, xs, e⟩ := subL_cons r
    unfold Lib.countByte at ih ⊢
    rw [List.count_cons]
    by_cases hc : c = 45
    · subst hc; rw [subL_hyp]; simp; omega
    · rw [subL_chr hc e]
      rw [e] at ih
      rw [if_neg (by simpa using hc)]
      simpa using ih
theorem mCount_any (s : ByteArray) (w : World) (hs : s.size ≤ 65000) :
    Calls Tryz.prog 30 #[.string s, .string ⟨#[45]⟩] w fun e w' => e = .returned (.int .i64 (Lib.countByte s.data.toList 45 : Nat)) ∧ w = w' := by
  have hone : ((⟨#[45]⟩ : ByteArray).size : Int) = 1 := rfl
  go_enter Tryz.func30, Tryz.ntmps30
  go_wp2
  rw [run_callFunc_extern Tryz.func58 (by kernel_rfl) (by kernel_rfl) (by kernel_rfl) (e := Extern.BytealgCount.count) (by kernel_rfl), Lib.run_countString]
  simp only [Result.andThen]
  rw [Oper.upon_value]
  go_wp2
  go_ret
  exact ⟨rfl, rfl⟩
theorem mFold11_is {a b : ByteArray} {q : Bool} {w : World} (ha : a.size ≤ 65000) (hb : b.size ≤ 65000) (h : Box (foldL a.data.toList b.data.toList = q)) :
    Calls Tryz.prog 56 #[.string a, .string b] w fun e w' => e = .returned (.bool q) ∧ Below w.heap.size w w' :=
  (Fold_any a b w (by unfold maxLen; omega) (by unfold maxLen; omega)).mono fun e w' ⟨h1, h2⟩ => ⟨by rw [h1, h.out], h2⟩
set_option maxHeartbeats 1000000 in
theorem mBeg_any (t r : ByteArray) (w : World) (ht : t.size ≤ 65000) (hr : r.size ≤ 65000) :
    Calls Tryz.prog 29 #[.string t, .string r] w fun e w' => e = .returned (.bool (begL r.data.toList t.data.toList)) ∧ Below w.heap.size w w' := by
  have hzr : r.data.toList.length = r.size := by simp
  have hzt : t.data.toList.length = t.size := by simp
  by_cases hlt : t.size < r.size
  · have HV : Box (begL r.data.toList t.data.toList = false) := box (beg_short (by omega))
    have hi : (t.size : Int) < (r.size : Int) := by omega
    clear hzr hzt
    go_enter Tryz.func29, Tryz.ntmps29
    go_wp2
    go_ret
    exact ⟨ret_bool HV.out.symm, Below.refl _ _⟩
  · have hV := beg_at (r := r.data.toList) (t := t.data.toList) (by omega)
    have hi : ¬ (t.size : Int) < (r.size : Int) := by omega
    have hi2 : (r.size : Int) ≤ (t.size : Int) := by omega
    have hi3 : (0 : Int) ≤ (r.size : Int) := by omega
    have hez : (t.extract 0 r.size).size ≤ 65000 := by rw [ByteArray.size_extract]; omega
    have HX : Box ((t.extract 0 r.size).data.toList = t.data.toList.take r.data.toList.length) := box (by rw [ext_bs, bs_toList, List.drop_zero, hzr])
    cases hf : foldL (t.data.toList.take r.data.toList.length) r.data.toList with
    | false =>
      have HF : Box (foldL (t.extract 0 r.size).data.toList r.data.toList = false) := box (by rw [HX.out, hf])
      have HV : Box (begL r.data.toList t.data.toList = false) := box (by rw [hV, hf, Bool.false_and])
      clear hzr hzt hV hf
      go_enter Tryz.func29, Tryz.ntmps29
      go_wp2_with fail
      refine (mFold11_is hez hr HF).mono ?_; rintro e w1 ⟨rfl, hb1⟩
      go_wp2
      go_ret
      exact ⟨ret_bool HV.out.symm, hb1⟩
    | true =>
      have HF : Box (foldL (t.extract 0 r.size).data.toList r.data.toList = true) := box (by rw [HX.out, hf])
      rw [hf, Bool.true_and] at hV
      by_cases he : t.size = r.size
      · have hei : ((t.size : Int) == (r.size : Int)) = true := by rw [he]; simp
        have HV : Box (begL r.data.toList t.data.toList = true) := box (by rw [hV, hzr, hzt, decide_eq_true he, Bool.true_or])
        clear hzr hzt hV hf he
        go_enter Tryz.func29, Tryz.ntmps29
        go_wp2_with fail
        refine (mFold11_is hez hr HF).mono ?_; rintro e w1 ⟨rfl, hb1⟩
        go_wp2
        go_ret
        exact ⟨ret_bool HV.out.symm, hb1⟩
      · have hei : ((t.size : Int) == (r.size : Int)) = false := by rw [beq_eq_false_iff_ne]; omega
        have hlt2 : r.size < t.size := by omega
        have hli : (r.size : Int) < (t.size : Int) := by omega
        have hg : t.data.toList.getD r.data.toList.length 0 = t[r.size] := by rw [hzr, getD_get _ _ (by omega)]; rfl
        obtain ⟨c, hc⟩ : ∃ c, t[r.size] = c := ⟨_, rfl⟩
        have HV : Box (begL r.data.toList t.data.toList = ((c.toNat : Int) == 45)) := box (by
          rw [hV, hzr, hzt, decide_eq_false he, Bool.false_or, ← hzr, hg, hc, Bool.eq_iff_iff]
          simp only [decide_eq_true_eq, beq_iff_eq]
          constructor
          · intro q; rw [q]; rfl
          · intro q; exact UInt8.toNat_inj.mp (by show c.toNat = 45; omega))
        have HCQ := box hc
        clear hzr hzt hV hf he hg
        go_enter Tryz.func29, Tryz.ntmps29
        go_wp2_with fail
        refine (mFold11_is hez hr HF).mono ?_; rintro e w1 ⟨rfl, hb1⟩
        go_wp2
        go_ret
        exact ⟨ret_bool HV.out.symm, hb1⟩
theorem mBeg_is {t r : ByteArray} {q : Bool} {w : World} (ht : t.size ≤ 65000) (hr : r.size ≤ 65000) (h : Box (begL r.data.toList t.data.toList = q)) :
    Calls Tryz.prog 29 #[.string t, .string r] w fun e w' => e = .returned (.bool q) ∧ Below w.heap.size w w' :=
  (mBeg_any t r w ht hr).mono fun e w' ⟨h1, h2⟩ => ⟨by rw [h1, h.out], h2⟩
theorem mRangeM_is {s : ByteArray} {b : Bool} {w : World} (hs : s.size ≤ 65000) (h : Box (rangeT s.data.toList = b)) :
    Calls Tryz.prog 27 #[.string s] w fun e w' => e = .returned (.bool b) ∧ Below w.heap.size w w' :=
  (mRangeT_any s w hs).mono fun e w' ⟨h1, h2⟩ => ⟨by rw [h1, h.out], h2⟩
theorem match_beg {r t : List UInt8} (h1 : rangeT r = true) (h2 : tagL t = true) (h3 : r ≠ [42]) : matchT r t = if begL r t = true then 1 + (Lib.countByte r 45 : Int) else -1 := by
  unfold matchT
  rw [h1, h2, if_neg (by simp), if_neg h3, pref_beg, count_sub]
  split
  · push_cast; omega
  · rfl
set_option maxHeartbeats 1000000 in
theorem mMatchT_any (r t : ByteArray) (w : World) (hr : r.size ≤ 65000) (ht : t.size ≤ 65000) :
    Calls Tryz.prog 11 #[.string r, .string t] w fun e w' => e = .returned (.int .i64 (matchT r.data.toList t.data.toList)) ∧ Below w.heap.size w w' := by
  cases h1 : rangeT r.data.toList with
  | false =>
    have HV : Box (matchT r.data.toList t.data.toList = -1) := box (match_no (by rw [h1]; rfl))
    have H1 := box h1
    clear h1
    go_enter Tryz.func11, Tryz.ntmps11
    go_wp2_with fail
    refine (mRangeM_is hr H1).mono ?_; rintro e w1 ⟨rfl, hb1⟩
    go_wp2
    go_ret
    exact ⟨by rw [HV.out]; rfl, hb1⟩
  | true =>
    have H1 := box h1
    cases h2 : tagL t.data.toList with
    | false =>
      have HV : Box (matchT r.data.toList t.data.toList = -1) := box (match_no (by rw [h1, h2]; rfl))
      have H2 := box h2
      clear h1 h2
      go_enter Tryz.func11, Tryz.ntmps11
      go_wp2_with fail
      refine (mRangeM_is hr H1).mono ?_; rintro e w1 ⟨rfl, hb1⟩
      have B1 := box hb1
      clear hb1
      go_wp2_with fail
      refine (mTagM_is ht H2).mono ?_; rintro e w2 ⟨rfl, hb2⟩
      have B2 := box (B1.out.trans (hb2.mono B1.out.size))
      clear hb2
      go_wp2
      go_ret
      exact ⟨by rw [HV.out]; rfl, B2.out⟩
    | true =>
      have H2 := box h2
      have hst := star_list (s := r)
      by_cases h3 : r.data.toList = [42]
      · have HV : Box (matchT r.data.toList t.data.toList = 0) := box (by rw [h3]; exact match_star h2)
        rw [decide_eq_true h3] at hst
        clear h1 h2 h3
        go_enter Tryz.func11, Tryz.ntmps11
        go_wp2_with fail
        refine (mRangeM_is hr H1).mono ?_; rintro e w1 ⟨rfl, hb1⟩
        have B1 := box hb1
        clear hb1
        go_wp2_with fail
        refine (mTagM_is ht H2).mono ?_; rintro e w2 ⟨rfl, hb2⟩
        have B2 := box (B1.out.trans (hb2.mono B1.out.size))
        clear hb2
        go_wp2
        go_ret
        exact ⟨by rw [HV.out]; rfl, B2.out⟩
      · rw [decide_eq_false h3] at hst
        have hM := match_beg h1 h2 h3
        have hcb : Lib.countByte r.data.toList 45 ≤ r.data.toList.length := List.count_le_length
        have hzr : r.data.toList.length = r.size := by simp
        cases hb : begL r.data.toList t.data.toList with
        | false =>
          have HB := box hb
          have HV : Box (matchT r.data.toList t.data.toList = -1) := box (by rw [hM, hb]; rfl)
          clear h1 h2 h3 hM hcb hzr hb
          go_enter Tryz.func11, Tryz.ntmps11
          go_wp2_with fail
          refine (mRangeM_is hr H1).mono ?_; rintro e w1 ⟨rfl, hb1⟩
          have B1 := box hb1
          clear hb1
          go_wp2_with fail
          refine (mTagM_is ht H2).mono ?_; rintro e w2 ⟨rfl, hb2⟩
          have B2 := box (B1.out.trans (hb2.mono B1.out.size))
          clear hb2
          go_wp2_with fail
          refine (mBeg_is ht hr HB).mono ?_; rintro e w3 ⟨rfl, hb3⟩
          have B3 := box (B2.out.trans (hb3.mono B2.out.size))
          clear hb3
          go_wp2
          go_ret
          exact ⟨by rw [HV.out]; rfl, B3.out⟩
        | true =>
          have HB := box hb
          obtain ⟨n, hn⟩ : ∃ n, Lib.countByte r.data.toList 45 = n := ⟨_, rfl⟩
          have HN := box hn
          rw [hn] at hM hcb
          have hnz : n ≤ 65000 := by omega
          have HV : Box (matchT r.data.toList t.data.toList = 1 + (n : Int)) := box (by rw [hM, hb]; rfl)
          have hwr : IntKind.i64.wrap (1 + (n : Int)) = 1 + (n : Int) := IntWalk.i64_in _ (by omega)
          clear h1 h2 h3 hM hcb hzr hb hn
          go_enter Tryz.func11, Tryz.ntmps11
          go_wp2_with fail
          refine (mRangeM_is hr H1).mono ?_; rintro e w1 ⟨rfl, hb1⟩
          have B1 := box hb1
          clear hb1
          go_wp2_with fail
          refine (mTagM_is ht H2).mono ?_; rintro e w2 ⟨rfl, hb2⟩
          have B2 := box (B1.out.trans (hb2.mono B1.out.size))
          clear hb2
          go_wp2_with fail
          refine (mBeg_is ht hr HB).mono ?_; rintro e w3 ⟨rfl, hb3⟩
          have B3 := box (B2.out.trans (hb3.mono B2.out.size))
          clear hb3
          go_wp2_with fail
          refine (mCount_any r _ hr).mono ?_; rintro e w4 ⟨rfl, rfl⟩
          rw [HN.out]
          go_wp2
          go_ret
          exact ⟨by rw [HV.out]; rfl, B3.out⟩
theorem mMatchM_is {r t : ByteArray} {i : Int} {w : World} (hr : r.size ≤ 65000) (ht : t.size ≤ 65000) (h : Box (matchT r.data.toList t.data.toList = i)) :
    Calls Tryz.prog 11 #[.string r, .string t] w fun e w' => e = .returned (.int .i64 i) ∧ Below w.heap.size w w' :=
  (mMatchT_any r t w hr ht).mono fun e w' ⟨h1, h2⟩ => ⟨by rw [h1, h.out], h2⟩
end
section
open Go.RowKit
theorem mLow12_is {s x : ByteArray} {w : World} (hs : s.size ≤ 4294967296) (h : Box (bs (lowL s.data.toList) = x)) :
    Calls Tryz.prog 51 #[.string s] w fun e w' => e = .returned (.string x) ∧ Below w.heap.size w w' :=
  (Lower_any s w hs).mono fun e w' ⟨h1, h2⟩ => ⟨by rw [h1, ← h.out]; rfl, h2⟩
theorem mCan_any (k : Int) (s : ByteArray) (w : World) (hk : InI64 k) (hs : s.size ≤ 65536) :
    Calls Tryz.prog 61 #[.int .i64 k, .string s] w fun e w' => e = .returned (.string (bs (canL k s.data.toList))) ∧ Below w.heap.size w w' := by
  have hs4 : s.size ≤ 4294967296 := by omega
  obtain ⟨l, hl⟩ : ∃ l, lowL s.data.toList = l := ⟨_, rfl⟩
  have HX : Box (bs (lowL s.data.toList) = bs l) := box (by rw [hl])
  by_cases h4 : k = 4
  · subst h4
    by_cases h1 : l = xgzL
    · have HV : Box (canL 4 s.data.toList = gzL) := box (by unfold canL; rw [hl, if_pos ⟨rfl, h1⟩])
      subst h1
      clear hl
      go_enter Tryz.func61, Tryz.ntmps61
      go_wp2_with fail
      refine (mLow12_is hs4 HX).mono ?_; rintro e w1 ⟨rfl, hb1⟩; rw [show bs xgzL = ⟨#[120, 45, 103, 122, 105, 112]⟩ from rfl]
      go_wp2
      go_ret
      exact ⟨by rw [HV.out]; rfl, hb1⟩
    · have e1 : ((bs l).toList == [120, 45, 103, 122, 105, 112]) = false := by rw [bs_list]; exact beq_list (decide_eq_false h1)
      by_cases h2 : l = xcoL
      · have HV : Box (canL 4 s.data.toList = coL) := box (by unfold canL; rw [hl, if_neg (fun q => h1 q.2), if_pos ⟨rfl, h2⟩])
        subst h2
        clear hl e1
        go_enter Tryz.func61, Tryz.ntmps61
        go_wp2_with fail
        refine (mLow12_is hs4 HX).mono ?_; rintro e w1 ⟨rfl, hb1⟩; rw [show bs xcoL = ⟨#[120, 45, 99, 111, 109, 112, 114, 101, 115, 115]⟩ from rfl]
        go_wp2
        go_ret
        exact ⟨by rw [HV.out]; rfl, hb1⟩
      · have e2 : ((bs l).toList == [120, 45, 99, 111, 109, 112, 114, 101, 115, 115]) = false := by rw [bs_list]; exact beq_list (decide_eq_false h2)
        have HV : Box (canL 4 s.data.toList = l) := box (by unfold canL; rw [hl, if_neg (fun q => h1 q.2), if_neg (fun q => h2 q.2)])
        clear hl h1 h2
        go_enter Tryz.func61, Tryz.ntmps61
        go_wp2_with fail
        refine (mLow12_is hs4 HX).mono ?_; rintro e w1 ⟨rfl, hb1⟩
        go_wp2
        go_ret
        exact ⟨by rw [HV.out]; rfl, hb1⟩
  · have e4 : (k != 4) = true := by rw [bne_iff_ne]; exact h4
    have HV : Box (canL k s.data.toList = l) := box (by unfold canL; rw [hl, if_neg (fun q => h4 q.1), if_neg (fun q => h4 q.1)])
    clear hl h4
    go_enter Tryz.func61, Tryz.ntmps61
    go_wp2_with fail
    refine (mLow12_is hs4 HX).mono ?_; rintro e w1 ⟨rfl, hb1⟩
    go_wp2
    go_ret
    exact ⟨by rw [HV.out]; rfl, hb1⟩
theorem mCan0_is {k : Int} {s x : ByteArray} {w : World} (hk : InI64 k) (hs : s.size ≤ 65536) (h : Box (bs (canL k s.data.toList) = x)) :
    Calls Tryz.prog 61 #[.int .i64 k, .string s] w fun e w' => e = .returned (.string x) ∧ Below w.heap.size w w' :=
  (mCan_any k s w hk hs).mono fun e w' ⟨h1, h2⟩ => ⟨by rw [h1, h.out], h2⟩
theorem mMatchC_any (k : Int) (r v : ByteArray) (w : World) (hk : InI64 k) (hr : r.size ≤ 65536) (hv : v.size ≤ 65536) :
    Calls Tryz.prog 32 #[.int .i64 k, .string r, .string v] w fun e w' => e = .returned (.int .i64 (matchC k r.data.toList v.data.toList)) ∧ Below w.heap.size w w' := by
  have hst := star12 (s := r)
  by_cases h : r.data.toList = [42]
  · have HV : Box (matchC k r.data.toList v.data.toList = 0) := box (by rw [h]; exact matchC_star _ _)
    rw [decide_eq_true h] at hst
    clear h
    go_enter Tryz.func32, Tryz.ntmps32
    go_wp2
    go_ret
    exact ⟨by rw [HV.out]; rfl, Below.refl _ _⟩
  · rw [decide_eq_false h] at hst
    obtain ⟨x, hx⟩ : ∃ x, canL k r.data.toList = x := ⟨_, rfl⟩
    obtain ⟨y, hy⟩ : ∃ y, canL k v.data.toList = y := ⟨_, rfl⟩
    have HX : Box (bs (canL k r.data.toList) = bs x) := box (by rw [hx])
    have HY : Box (bs (canL k v.data.toList) = bs y) := box (by rw [hy])
    have HV : Box (matchC k r.data.toList v.data.toList = if x = y then 1 else -1) := box (by rw [matchC_not h, hx, hy])
    clear hx hy h
    by_cases he : x = y
    · subst he
      rw [if_pos rfl] at HV
      have e1 : ((bs x).toList == (bs x).toList) = true := by simp
      go_enter Tryz.func32, Tryz.ntmps32
      go_wp2_with fail
      refine (mCan0_is hk hr HX).mono ?_; rintro e w1 ⟨rfl, hb1⟩
      have B1 := box hb1
      clear hb1
      go_wp2_with fail
      refine (mCan0_is hk hv HY).mono ?_; rintro e w2 ⟨rfl, hb2⟩
      have B2 := box (B1.out.trans (hb2.mono B1.out.size))
      clear hb2
      go_wp2
      go_ret
      exact ⟨by rw [HV.out]; rfl, B2.out⟩
    · rw [if_neg he] at HV
      have e1 : ((bs x).toList == (bs y).toList) = false := by rw [bs_list, bs_list]; exact beq_list (decide_eq_false he)
      clear he
      go_enter Tryz.func32, Tryz.ntmps32
      go_wp2_with fail
      refine (mCan0_is hk hr HX).mono ?_; rintro e w1 ⟨rfl, hb1⟩
      have B1 := box hb1
      clear hb1
      go_wp2_with fail
      refine (mCan0_is hk hv HY).mono ?_; rintro e w2 ⟨rfl, hb2⟩
      have B2 := box (B1.out.trans (hb2.mono B1.out.size))
      clear hb2
      go_wp2
      go_ret
      exact ⟨by rw [HV.out]; rfl, B2.out⟩
end
section
open Go.RowKit
theorem strip_three (a b c : UInt8) : stripF 3 [a, b, c] = if c = 48 then (if b = 48 then (if a = 48 then [] else [a]) else [a, b]) else [a, b, c] := by
  unfold stripF
  by_cases hc : c = 48
  · rw [if_pos (by simp [hc]), if_pos hc]
    show stripF 2 [a, b] = _
    unfold stripF
    by_cases hb : b = 48
    · rw [if_pos (by simp [hb]), if_pos hb]
      show stripF 1 [a] = _
      unfold stripF
      by_cases ha : a = 48
      · rw [if_pos (by simp [ha]), if_pos ha]; rfl
      · rw [if_neg (by simp [ha]), if_neg ha]
    · rw [if_neg (by simp [hb]), if_neg hb]
  · rw [if_neg (by simp [hc]), if_neg hc]
theorem three_not (q : Int) (h0 : 0 < q) (h1 : q < 1000) : ∃ a b c : UInt8, threeL q.toNat = [a, b, c] ∧ ¬ (a = 48 ∧ b = 48 ∧ c = 48) := by
  have key : ∀ n : Fin 1000, n.1 = 0 ∨ ¬ (digC (n.1 / 100 % 10) = 48 ∧ digC (n.1 / 10 % 10) = 48 ∧ digC (n.1 % 10) = 48) := by decide +kernel
  refine ⟨_, _, _, rfl, ?_⟩
  rcases key ⟨q.toNat, by omega⟩ with h | h
  · exfalso; have : q.toNat = 0 := h; omega
  · exact h
theorem rDec8_is {n : Int} {x : ByteArray} {w : World} (h1 : InI64 n) (h : Box (bs (decL n) = x)) :
    Calls Tryz.prog 44 #[.int .i64 n] w fun e w' => e = .returned (.string x) ∧ Below w.heap.size w w' :=
  (rDecimal_any n w h1).mono fun e w' ⟨h1, h2⟩ => ⟨by rw [h1, ← h.out]; rfl, h2⟩
def strN : Value → Nat
  | .string s => s.size
  | _ => 0
def QfRel (a b c : UInt8) (v : Value) : Prop := v = .string ⟨#[a, b, c]⟩ ∨ (c = 48 ∧ v = .string ⟨#[a, b]⟩) ∨ (c = 48 ∧ b = 48 ∧ v = .string ⟨#[a]⟩)
theorem int48 {c : UInt8} : (((c.toNat : Nat) : Int) == 48) = decide (c = 48) := by
  by_cases h : c = 48
  · subst h; rfl
  · rw [decide_eq_false h, beq_eq_false_iff_ne]
    exact fun e => h (byte8 (d := 48) e)
set_option maxHeartbeats 2000000 in
theorem rFormatQ_in (q : Int) (w : World) (h0 : 0 < q) (h1 : q < 1000) :
    Calls Tryz.prog 21 #[.int .i64 q] w fun e w' => e = .returned (.string (bs (fmtQ q))) ∧ Below w.heap.size w w' := by
  obtain ⟨a, b, c, ht, hn⟩ := three_not q h0 h1
  have HD : Box (bs (decL (1000 + q)) = ⟨#[49, a, b, c]⟩) := box (by rw [dec_four q (by omega) h1, ht]; rfl)
  have HF : Box (fmtQ q = 48 :: 46 :: (if c = 48 then (if b = 48 then [a] else [a, b]) else [a, b, c])) := box (by
    unfold fmtQ
    rw [if_neg (by omega), if_neg (by omega), if_neg (by omega), ht, strip_three]
    by_cases hc : c = 48
    · by_cases hb : b = 48
      · rw [if_pos hc, if_pos hb, if_neg (fun ha => hn ⟨ha, hb, hc⟩), if_pos hc, if_pos hb]
      · rw [if_pos hc, if_neg hb, if_pos hc, if_neg hb]
    · rw [if_neg hc, if_neg hc])
  have HI : InI64 (1000 + q) := ⟨by omega, by omega⟩
  have i1 : ¬ q < 0 := by omega
  have i2 : ¬ 1000 < q := by omega
  have i3 : (q == 0) = false := by rw [beq_eq_false_iff_ne]; omega
  have i4 : (q == 1000) = false := by rw [beq_eq_false_iff_ne]; omega
  have hx : (⟨#[49, a, b, c]⟩ : ByteArray).extract 1 4 = ⟨#[a, b, c]⟩ := by rw [ext_bs]; rfl
  clear ht
  go_enter Tryz.func21, Tryz.ntmps21
  go_wp2_with fail
  refine (rDec8_is HI HD).mono ?_; rintro e w1 ⟨rfl, hb1⟩
  have B1 := box hb1
  clear hb1
  go_wp2
  have hx2 : (⟨#[a, b, c]⟩ : ByteArray).extract 0 2 = ⟨#[a, b]⟩ := by rw [ext_bs]; rfl
  have hx1 : (⟨#[a, b]⟩ : ByteArray).extract 0 1 = ⟨#[a]⟩ := by rw [ext_bs]; rfl
  have ad : ∀ (y : ByteArray), y.size ≤ 10 → ∀ w, (Op.stringOp .add ⟨#[48, 46]⟩ y).run Tryz.prog w = .ok (.string (⟨#[48, 46]⟩ ++ y)) w := fun y hy w => run_string_add_sum w _ _ (by show 2 + y.size ≤ 9223372036854775807; omega)
  have ad1 := ad ⟨#[a, b, c]⟩ (by show 3 ≤ 10; omega)
  have ad2 := ad ⟨#[a, b]⟩ (by show 2 ≤ 10; omega)
  have ad3 := ad ⟨#[a]⟩ (by show 1 ≤ 10; omega)
  have gx2 : (⟨#[a, b, c]⟩ : ByteArray)[2]'(by show 2 < 3; decide) = c := rfl
  have gx1 : (⟨#[a, b]⟩ : ByteArray)[1]'(by show 1 < 2; decide) = b := rfl
  have gx0 : (⟨#[a]⟩ : ByteArray)[0]'(by show 0 < 1; decide) = a := rfl
  clear ad
  go_loop [3] (fun v => QfRel a b c v) (fun v => strN v)
  case atStart => exact .inl rfl
  case round =>
    have HREL := box hrel
    rcases hrel with rfl | ⟨hc, rfl⟩ | ⟨hc, hb, rfl⟩
    · by_cases hc : c = 48
      · have e8 : (((c.toNat : Nat) : Int) == 48) = true := by rw [int48, decide_eq_true hc]
        go_wp2
        go_round
        case rel => exact .inr (.inl ⟨hc, rfl⟩)
        case measure => show min 2 3 < 3; decide
      · have e8 : (((c.toNat : Nat) : Int) == 48) = false := by rw [int48, decide_eq_false hc]
        have HE : Box ((⟨#[48, 46]⟩ : ByteArray) ++ ⟨#[a, b, c]⟩ = bs (fmtQ q)) := box (by rw [HF.out, if_neg hc]; rfl)
        go_wp2
        go_ret
        exact ⟨by rw [← HE.out]; rfl, B1.out⟩
    · by_cases hb : b = 48
      · have e8 : (((b.toNat : Nat) : Int) == 48) = true := by rw [int48, decide_eq_true hb]
        go_wp2
        go_round
        case rel => exact .inr (.inr ⟨hc, hb, rfl⟩)
        case measure => show min 1 2 < 2; decide
      · have e8 : (((b.toNat : Nat) : Int) == 48) = false := by rw [int48, decide_eq_false hb]
        have HE : Box ((⟨#[48, 46]⟩ : ByteArray) ++ ⟨#[a, b]⟩ = bs (fmtQ q)) := box (by rw [HF.out, if_pos hc, if_neg hb]; rfl)
        go_wp2
        go_ret
        exact ⟨by rw [← HE.out]; rfl, B1.out⟩
    · have ha : ¬ a = 48 := fun ha => hn ⟨ha, hb, hc⟩
      have e8 : (((a.toNat : Nat) : Int) == 48) = false := by rw [int48, decide_eq_false ha]
      have HE : Box ((⟨#[48, 46]⟩ : ByteArray) ++ ⟨#[a]⟩ = bs (fmtQ q)) := box (by rw [HF.out, if_pos hc, if_pos hb]; rfl)
      go_wp2
      go_ret
      exact ⟨by rw [← HE.out]; rfl, B1.out⟩
theorem rFormatQ_any (q : Int) (w : World) (h : InI64 q) :
    Calls Tryz.prog 21 #[.int .i64 q] w fun e w' => e = .returned (.string (bs (fmtQ q))) ∧ Below w.heap.size w w' := by
  by_cases h1 : q < 0
  · have HE : Box (fmtQ q = []) := box (qv_none q (.inl h1))
    go_enter Tryz.func21, Tryz.ntmps21
    go_wp2
    go_ret
    exact ⟨by rw [HE.out]; rfl, Below.refl _ _⟩
  · by_cases h2 : 1000 < q
    · have HE : Box (fmtQ q = []) := box (qv_none q (.inr h2))
      go_enter Tryz.func21, Tryz.ntmps21
      go_wp2
      go_ret
      exact ⟨by rw [HE.out]; rfl, Below.refl _ _⟩
    · by_cases h3 : q = 0
      · subst h3
        have HE : Box (fmtQ 0 = [48]) := box (by decide)
        go_enter Tryz.func21, Tryz.ntmps21
        go_wp2
        go_ret
        exact ⟨by rw [HE.out]; rfl, Below.refl _ _⟩
      · by_cases h4 : q = 1000
        · subst h4
          have HE : Box (fmtQ 1000 = [49]) := box (by decide)
          go_enter Tryz.func21, Tryz.ntmps21
          go_wp2
          go_ret
          exact ⟨by rw [HE.out]; rfl, Below.refl _ _⟩
        · exact rFormatQ_in q w (by omega) (by omega)
end
section
/-- the thousandths that at most three digits say -/
def fracO (ds : List UInt8) : Option Int := if 3 < ds.length then none else qvD 0 100 ds
def wt3 (k : Nat) : Int := if k = 0 then 100 else if k = 1 then 10 else if k = 2 then 1 else 0
theorem wt3_next (k : Nat) (h : k < 3) : wt3 k / 10 = wt3 (k + 1) := by
  match k, h with
  | 0, _ => rfl
  | 1, _ => rfl
  | 2, _ => rfl
theorem qvD_shift : ∀ (ds : List UInt8) (q x w : Int), qvD (q + x) w ds = (qvD q w ds).map (· + x)
  | [], q, x, w => rfl
  | c :: r, q, x, w => by
    rw [qvD_cons, qvD_cons]
    by_cases h : digitI c.toNat = true
    · rw [if_pos h, if_pos h, ← qvD_shift r, show q + x + ((c.toNat : Int) - 48) * w = q + ((c.toNat : Int) - 48) * w + x from by omega]
    · rw [if_neg h, if_neg h]; rfl
theorem dig_bd {c : UInt8} (h : digitI c.toNat = true) : 48 ≤ (c.toNat : Int) ∧ (c.toNat : Int) ≤ 57 := by simpa [digitI] using h
theorem frac_bd {ds : List UInt8} {t : Int} (h : fracO ds = some t) : 0 ≤ t ∧ t ≤ 999 := by
  unfold fracO at h
  split at h
  · cases h
  · rename_i hl
    match ds, hl with
    | [], _ => cases h; omega
    | [a], _ =>
      rw [qvD_cons] at h
      split at h
      · rename_i ha; have := dig_bd ha; cases h; omega
      · cases h
    | [a, b], _ =>
      rw [qvD_cons] at h
      split at h
      · rename_i ha
        rw [qvD_cons] at h
        split at h
        · rename_i hb; have := dig_bd ha; have := dig_bd hb; cases h; omega
        · cases h
      · cases h
    | [a, b, c], _ =>
      rw [qvD_cons] at h
      split at h
      · rename_i ha
        rw [qvD_cons] at h
        split at h
        · rename_i hb
          rw [qvD_cons] at h
          split at h
          · rename_i hc; have := dig_bd ha; have := dig_bd hb; have := dig_bd hc; cases h; omega
          · cases h
        · cases h
      · cases h
    | _ :: _ :: _ :: _ :: _, hl => exact absurd (by simp only [List.length_cons]; omega) hl
/-- what is said by the digit ahead of the point and the thousandths behind it -/
def selQ (W : List UInt8) : Option Int → Option Int
  | none => none
  | some t => if W = [48] then some t else if W = [49] ∧ t = 0 then some 1000 else none
/-- a text cut at a point in its second place -/
def cutQ : List UInt8 → List UInt8 × List UInt8
  | a :: p :: ds => if p = 46 then ([a], ds) else (a :: p :: ds, [])
  | l => (l, [])
theorem sel_cut (l : List UInt8) : selQ (cutQ l).1 (fracO (cutQ l).2) = qvL l := by
  match l with
  | [] => rfl
  | [a] =>
    show selQ [a] (some 0) = (if 5 < 0 + 1 ∨ ¬ (a = 48 ∨ a = 49) then none else qvEnd (some (((a.toNat : Int) - 48) * 1000)))
    unfold selQ
    by_cases h8 : a = 48
    · subst h8; rfl
    · by_cases h9 : a = 49
      · subst h9; rfl
      · simp [h8, h9]
  | a :: p :: ds =>
    rw [qv_more]
    show selQ (if p = 46 then ([a], ds) else (a :: p :: ds, [])).1 (fracO (if p = 46 then ([a], ds) else (a :: p :: ds, [])).2) = _
    by_cases hp : p = 46
    · rw [if_pos hp]
      by_cases hl : ds.length ≤ 3
      · by_cases h8 : a = 48
        · rw [if_pos ⟨hl, .inl h8, hp⟩]
          subst h8
          have e : fracO ds = qvD 0 100 ds := by unfold fracO; rw [if_neg (by omega)]
          show selQ [48] (fracO ds) = qvEnd (qvD 0 100 ds)
          rw [← e]
          cases hf : fracO ds with
          | none => rfl
          | some t => have := frac_bd hf; show (if ([48] : List UInt8) = [48] then some t else if ([48] : List UInt8) = [49] ∧ t = 0 then some 1000 else none) = (if 1000 < t then none else some t); rw [if_pos rfl, if_neg (by omega)]
        · by_cases h9 : a = 49
          · rw [if_pos ⟨hl, .inr h9, hp⟩]
            subst h9
            have e : qvD (0 + 1000) 100 ds = (fracO ds).map (· + 1000) := by unfold fracO; rw [if_neg (by omega), qvD_shift]
            show selQ [49] (fracO ds) = qvEnd (qvD (0 + 1000) 100 ds)
            rw [e]
            cases hf : fracO ds with
            | none => rfl
            | some t =>
              have := frac_bd hf
              show (if ([49] : List UInt8) = [48] then some t else if ([49] : List UInt8) = [49] ∧ t = 0 then some 1000 else none) = (if 1000 < t + 1000 then none else some (t + 1000))
              rw [if_neg (by decide)]
              by_cases h0 : t = 0
              · rw [if_pos ⟨rfl, h0⟩, if_neg (by omega), h0]; rfl
              · rw [if_neg (fun q => h0 q.2), if_pos (by omega)]
          · rw [if_neg (fun q => q.2.1.elim h8 h9)]
            show selQ [a] (fracO ds) = none
            cases fracO ds with
            | none => rfl
            | some t => show (if [a] = [48] then some t else if [a] = [49] ∧ t = 0 then some 1000 else none) = none; simp [h8, h9]
      · rw [if_neg (fun q => hl q.1)]
        have e : fracO ds = none := by unfold fracO; rw [if_pos (by omega)]
        show selQ [a] (fracO ds) = none
        rw [e]; rfl
    · rw [if_neg hp, if_neg (fun q => hp q.2.2)]
      show selQ (a :: p :: ds) (some 0) = none
      unfold selQ; simp
/-- the digits of a number below 1000, the last ones left out where they are zeros -/
theorem dec_dig (n : Nat) (h : n < 10) : decL (n : Int) = [digC n] := by
  have key : ∀ n : Fin 10, decL (n.1 : Int) = [digC n.1] := by decide +kernel
  exact key ⟨n, h⟩
theorem digC_zero (n : Nat) (h : n < 10) : digC n = 48 ↔ n = 0 := by
  have key : ∀ n : Fin 10, digC n.1 = 48 ↔ n.1 = 0 := by decide +kernel
  exact key ⟨n, h⟩
end
end Go.Proofs.YtnpllgjkbpnimaaGreatDoor.Asc
