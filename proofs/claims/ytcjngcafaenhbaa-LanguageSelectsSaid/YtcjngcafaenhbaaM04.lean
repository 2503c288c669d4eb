/- Merged texts: LanMT LanRef3 LanSpec2 LanSpec3 LanMM. -/
import Derived.Test.YtcjngcafaenhbaaM01
import Derived.Test.YtcjngcafaenhbaaM02
import Derived.Test.YtcjngcafaenhbaaM03
set_option linter.unusedVariables false
set_option linter.unusedSimpArgs false
set_option maxRecDepth 100000
namespace Go.Proofs.Ytcjngcafaenhbaa.Asc
section
open Go.RowKit
theorem mLetter_any (b : Int) (w : World) (h0 : 0 ≤ b) (h1 : b ≤ 255) :
    Calls Try.prog 26 #[.int .u8 b] w fun e w' => e = .returned (.bool (lettI b)) ∧ w = w' := by
  go_enter Try.func26, Try.ntmps26
  go_wp2
  all_goals (go_ret; exact ⟨ret_bool (by rw [Bool.eq_iff_iff]; simp [lettI]; omega), rfl⟩)
theorem mLetterC (c : UInt8) (w : World) :
    Calls Try.prog 26 #[.int .u8 (c.toNat : Int)] w fun e w' => e = .returned (.bool (chOk true c)) ∧ w = w' :=
  (mLetter_any _ w (c_bd c).1 (c_bd c).2).mono fun e w' ⟨h1, h2⟩ => ⟨by rw [h1]; unfold chOk; rw [Bool.not_true, Bool.false_and, Bool.or_false], h2⟩
theorem mLetter_is {c : UInt8} {q : Bool} {w : World} (h : Box (lettI (c.toNat : Int) = q)) :
    Calls Try.prog 26 #[.int .u8 (c.toNat : Int)] w fun e w' => e = .returned (.bool q) ∧ w = w' :=
  (mLetter_any _ w (c_bd c).1 (c_bd c).2).mono fun e w' ⟨h1, h2⟩ => ⟨by rw [h1, h.out], h2⟩
theorem mLetDigC (c : UInt8) (w : World) :
    Calls Try.prog 27 #[.int .u8 (c.toNat : Int)] w fun e w' => e = .returned (.bool (chOk false c)) ∧ w = w' := by
  have hb := c_bd c
  have HD : Box (∀ b : Int, digitI b = decide (48 ≤ b ∧ b ≤ 57)) := box (fun _ => rfl)
  cases hl : lettI (c.toNat : Int) with
  | true =>
    have HL := box hl
    have HV : Box (chOk false c = true) := box (by unfold chOk; rw [hl]; rfl)
    clear hl
    go_enter Try.func27, Try.ntmps27
    go_wp2_with fail
    refine (mLetter_is HL).mono ?_; rintro e w1 ⟨rfl, rfl⟩
    go_wp2
    go_ret
    exact ⟨ret_bool HV.out.symm, rfl⟩
  | false =>
    have HL := box hl
    have HV : Box (chOk false c = digitI (c.toNat : Int)) := box (by unfold chOk; rw [hl]; rfl)
    clear hl
    go_enter Try.func27, Try.ntmps27
    go_wp2_with fail
    refine (mLetter_is HL).mono ?_; rintro e w1 ⟨rfl, rfl⟩
    go_wp2
    all_goals (go_ret; exact ⟨ret_bool (by rw [HV.out, HD.out, Bool.eq_iff_iff]; simp; omega), rfl⟩)
theorem mIsSub_true (s : ByteArray) (w : World) (hs : s.size ≤ 65000) :
    Calls Try.prog 25 #[.string s, .func (.func 26) #[] #[]] w fun e w' => e = .returned (.bool (subOk true s.data.toList)) ∧ w = w' := by
  have hz : s.data.toList.length = s.size := by simp
  have HE : Box (s.toList = s.data.toList) := box (toList_data s)
  by_cases h0 : s.size = 0
  · have hse : (s.toList.isEmpty) = true := by rw [HE.out]; cases hl : s.data.toList with
      | nil => rfl
      | cons a b => rw [hl] at hz; simp at hz; omega
    have hse2 : s.toList = [] := by rw [List.isEmpty_iff] at hse; exact hse
    have HV : Box (subOk true s.data.toList = false) := box (sub_size (.inl (by omega)))
    clear hz
    go_enter Try.func25, Try.ntmps25
    go_wp2
    go_ret
    exact ⟨ret_bool HV.out.symm, rfl⟩
  · have hse : (s.toList.isEmpty) = false := by rw [HE.out]; cases hl : s.data.toList with
      | nil => rw [hl] at hz; simp at hz; omega
      | cons a b => rfl
    have hse2 : ¬ s.toList = [] := by rw [List.isEmpty_eq_false_iff] at hse; exact hse
    by_cases h8 : 8 < s.size
    · have HV : Box (subOk true s.data.toList = false) := box (sub_size (.inr (by omega)))
      have h8i : (8 : Int) < (s.size : Int) := by omega
      clear hz
      go_enter Try.func25, Try.ntmps25
      go_wp2
      go_ret
      exact ⟨ret_bool HV.out.symm, rfl⟩
    · have HV : Box (subOk true s.data.toList = s.data.toList.all (chOk true)) := box (sub_chars (by omega) (by omega))
      have h8i : ¬ (8 : Int) < (s.size : Int) := by omega
      clear hz
      go_enter Try.func25, Try.ntmps25
      go_wp2
      go_loop [5, 15] (fun _ m => TagI s true m) (fun _ m => s.size - (intOf m).toNat)
      case atStart => exact ⟨0, rfl, Nat.zero_le _, rfl⟩
      case round =>
        obtain ⟨m, rfl, hm, hc⟩ := hrel
        have HM := box hc
        clear hc
        by_cases hml : m < s.size
        · have hmi : (m : Int) < (s.size : Int) := by omega
          obtain ⟨c, hcq⟩ : ∃ c, s[m] = c := ⟨_, rfl⟩
          cases hk : chOk true c with
          | true =>
            have HN := box (allC_more HM.out hml (by rw [hcq, hk]))
            have HK := box hk
            clear hk
            go_wp2_with fail
            refine (mLetterC _ _).mono ?_; rintro e w1 ⟨rfl, rfl⟩
            rw [HK.out]
            go_wp2
            go_round
            case rel => exact ⟨m + 1, by go_num, hml, HN.out⟩
            case measure => simp [intOf]; omega
          | false =>
            have HN : Box (subOk true s.data.toList = false) := box (by rw [HV.out]; exact allC_not hml (by rw [hcq, hk]))
            have HK := box hk
            clear hk
            go_wp2_with fail
            refine (mLetterC _ _).mono ?_; rintro e w1 ⟨rfl, rfl⟩
            rw [HK.out]
            go_wp2
            go_ret
            exact ⟨ret_bool HN.out.symm, rfl⟩
        · have hmi : ¬ (m : Int) < (s.size : Int) := by omega
          have HN : Box (subOk true s.data.toList = true) := box (by
            have h := HM.out
            rw [List.take_of_length_le (by simp; omega)] at h
            rw [HV.out, h])
          go_wp2
          go_ret
          exact ⟨ret_bool HN.out.symm, rfl⟩
theorem mIsSub_false (s : ByteArray) (w : World) (hs : s.size ≤ 65000) :
    Calls Try.prog 25 #[.string s, .func (.func 27) #[] #[]] w fun e w' => e = .returned (.bool (subOk false s.data.toList)) ∧ w = w' := by
  have hz : s.data.toList.length = s.size := by simp
  have HE : Box (s.toList = s.data.toList) := box (toList_data s)
  by_cases h0 : s.size = 0
  · have hse : (s.toList.isEmpty) = true := by rw [HE.out]; cases hl : s.data.toList with
      | nil => rfl
      | cons a b => rw [hl] at hz; simp at hz; omega
    have hse2 : s.toList = [] := by rw [List.isEmpty_iff] at hse; exact hse
    have HV : Box (subOk false s.data.toList = false) := box (sub_size (.inl (by omega)))
    clear hz
    go_enter Try.func25, Try.ntmps25
    go_wp2
    go_ret
    exact ⟨ret_bool HV.out.symm, rfl⟩
  · have hse : (s.toList.isEmpty) = false := by rw [HE.out]; cases hl : s.data.toList with
      | nil => rw [hl] at hz; simp at hz; omega
      | cons a b => rfl
    have hse2 : ¬ s.toList = [] := by rw [List.isEmpty_eq_false_iff] at hse; exact hse
    by_cases h8 : 8 < s.size
    · have HV : Box (subOk false s.data.toList = false) := box (sub_size (.inr (by omega)))
      have h8i : (8 : Int) < (s.size : Int) := by omega
      clear hz
      go_enter Try.func25, Try.ntmps25
      go_wp2
      go_ret
      exact ⟨ret_bool HV.out.symm, rfl⟩
    · have HV : Box (subOk false s.data.toList = s.data.toList.all (chOk false)) := box (sub_chars (by omega) (by omega))
      have h8i : ¬ (8 : Int) < (s.size : Int) := by omega
      clear hz
      go_enter Try.func25, Try.ntmps25
      go_wp2
      go_loop [5, 15] (fun _ m => TagI s false m) (fun _ m => s.size - (intOf m).toNat)
      case atStart => exact ⟨0, rfl, Nat.zero_le _, rfl⟩
      case round =>
        obtain ⟨m, rfl, hm, hc⟩ := hrel
        have HM := box hc
        clear hc
        by_cases hml : m < s.size
        · have hmi : (m : Int) < (s.size : Int) := by omega
          obtain ⟨c, hcq⟩ : ∃ c, s[m] = c := ⟨_, rfl⟩
          cases hk : chOk false c with
          | true =>
            have HN := box (allC_more HM.out hml (by rw [hcq, hk]))
            have HK := box hk
            clear hk
            go_wp2_with fail
            refine (mLetDigC _ _).mono ?_; rintro e w1 ⟨rfl, rfl⟩
            rw [HK.out]
            go_wp2
            go_round
            case rel => exact ⟨m + 1, by go_num, hml, HN.out⟩
            case measure => simp [intOf]; omega
          | false =>
            have HN : Box (subOk false s.data.toList = false) := box (by rw [HV.out]; exact allC_not hml (by rw [hcq, hk]))
            have HK := box hk
            clear hk
            go_wp2_with fail
            refine (mLetDigC _ _).mono ?_; rintro e w1 ⟨rfl, rfl⟩
            rw [HK.out]
            go_wp2
            go_ret
            exact ⟨ret_bool HN.out.symm, rfl⟩
        · have hmi : ¬ (m : Int) < (s.size : Int) := by omega
          have HN : Box (subOk false s.data.toList = true) := box (by
            have h := HM.out
            rw [List.take_of_length_le (by simp; omega)] at h
            rw [HV.out, h])
          go_wp2
          go_ret
          exact ⟨ret_bool HN.out.symm, rfl⟩
theorem mIsSub1_is {s : ByteArray} {q : Bool} {w : World} (hs : s.size ≤ 65000) (h : Box (subOk true s.data.toList = q)) :
    Calls Try.prog 25 #[.string s, .func (.func 26) #[] #[]] w fun e w' => e = .returned (.bool q) ∧ w = w' :=
  (mIsSub_true s w hs).mono fun e w' ⟨h1, h2⟩ => ⟨by rw [h1, h.out], h2⟩
theorem mIsSub0_is {s : ByteArray} {q : Bool} {w : World} (hs : s.size ≤ 65000) (h : Box (subOk false s.data.toList = q)) :
    Calls Try.prog 25 #[.string s, .func (.func 27) #[] #[]] w fun e w' => e = .returned (.bool q) ∧ w = w' :=
  (mIsSub_false s w hs).mono fun e w' ⟨h1, h2⟩ => ⟨by rw [h1, h.out], h2⟩
/-- what is left to be judged: the pieces of t, if there is a piece at all -/
def moreT (more : Bool) (t : List UInt8) : Bool := !more || (subL t).all (subOk false)
theorem cut_sub (l : List UInt8) : subL l = cut1 45 l :: (if cutB 45 l = true then subL (cut2 45 l) else []) := by
  by_cases h : cutB 45 l = true
  · rw [if_pos h]
    conv => lhs; rw [cut_join h]
    exact sub_at (cut1_not 45 l)
  · rw [if_neg h]
    have h2 : cutB 45 l = false := by cases e : cutB 45 l with
      | true => exact absurd e h
      | false => rfl
    have hn : (45 : UInt8) ∉ l := by simpa [cutB] using h2
    have e : Lib.indexByte l 45 = -1 := by
      by_cases q : Lib.indexByte l 45 = -1
      · exact q
      · exfalso
        obtain ⟨k, hk⟩ : ∃ k : Nat, Lib.indexByte l 45 = k := ⟨(Lib.indexByte l 45).toNat, by have := Lib.indexByte_ge l 45; omega⟩
        have := (cut_at hk).2.2.2
        rw [h2] at this; cases this
    rw [(cut_no e).1, sub_no hn]
theorem tag_cut (l : List UInt8) : tagL l = (subOk true (cut1 45 l) && moreT (cutB 45 l) (cut2 45 l)) := by
  unfold tagL moreT
  rw [cut_sub l]
  show (subOk true (cut1 45 l) && _) = _
  congr 1
  cases cutB 45 l <;> rfl
theorem more_cut (l : List UInt8) : moreT true l = (subOk false (cut1 45 l) && moreT (cutB 45 l) (cut2 45 l)) := by
  unfold moreT
  rw [Bool.not_true, Bool.false_or, cut_sub l, List.all_cons]
  congr 1
  cases cutB 45 l <;> rfl
theorem cut_small (l : List UInt8) : (cut1 45 l).length ≤ l.length ∧ (cut2 45 l).length ≤ l.length ∧ (cutB 45 l = true → (cut2 45 l).length < l.length) := by
  refine ⟨(List.takeWhile_prefix _).length_le, ?_, ?_⟩
  · unfold cut2; have := (List.dropWhile_suffix (l := l) (fun x => x != (45 : UInt8))).length_le; simp; omega
  · intro h; have := congrArg List.length (cut_join h); rw [List.length_append, List.length_cons] at this; omega
/-- the loop over the pieces: rest and more -/
def MtR (m : Bool) (n : Nat) (W : World) (t b : Value) (wr : World) : Prop :=
  ∃ (r : ByteArray) (q : Bool), t = .string r ∧ b = .bool q ∧ r.size ≤ n ∧ moreT q r.data.toList = m ∧ Below W.heap.size W wr
def boolV : Value → Bool
  | .bool b => b
  | _ => false
set_option maxHeartbeats 1000000 in
theorem mTag_any (s : ByteArray) (w : World) (hs : s.size ≤ 65000) :
    Calls Try.prog 9 #[.string s] w fun e w' => e = .returned (.bool (tagL s.data.toList)) ∧ Below w.heap.size w w' := by
  obtain ⟨v, hv⟩ : ∃ v, tagL s.data.toList = v := ⟨_, rfl⟩
  have hT := tag_cut s.data.toList
  have hC := cut_small s.data.toList
  have hz : s.data.toList.length = s.size := by simp
  have hsm : s.size ≤ maxLen := by unfold maxLen; omega
  rw [hv] at hT
  have HCV : Box (cutV 45 s.data.toList = .tuple #[.string (bs (cut1 45 s.data.toList)), .string (bs (cut2 45 s.data.toList)), .bool (cutB 45 s.data.toList)]) := box rfl
  obtain ⟨x, hx⟩ : ∃ x, cut1 45 s.data.toList = x := ⟨_, rfl⟩
  obtain ⟨y, hy⟩ : ∃ y, cut2 45 s.data.toList = y := ⟨_, rfl⟩
  obtain ⟨b, hb⟩ : ∃ b, cutB 45 s.data.toList = b := ⟨_, rfl⟩
  rw [hx, hy, hb] at HCV
  rw [hx, hy, hb] at hT
  rw [hx, hy] at hC
  have hxz : (bs x).size ≤ 65000 := by rw [bs_size]; omega
  have hyz : (bs y).size ≤ 65000 := by rw [bs_size]; omega
  have HV : Box (∀ q, subOk true x = q → v = (q && moreT b y)) := box (fun q hq => by rw [← hq, hT])
  have HVV := box hv
  rw [hv]
  clear hx hy hb hv hT hC hz
  go_enter Try.func9, Try.ntmps9
  go_wp2_with fail
  refine (Cut_any s 45 _ hsm).mono ?_; rintro e w1 ⟨rfl, hb1⟩
  rw [HCV.out]
  have B1 := box hb1
  clear hb1
  cases hq : subOk true x with
  | false =>
    have HQ : Box (subOk true (bs x).data.toList = false) := box hq
    have HR : Box (v = false) := box (by rw [HV.out _ hq]; rfl)
    clear hq
    go_wp2_with fail
    refine (mIsSub1_is hxz HQ).mono ?_; rintro e w2 ⟨rfl, rfl⟩
    go_wp2
    go_ret
    exact ⟨ret_bool HR.out.symm, B1.out⟩
  | true =>
    have HQ : Box (subOk true (bs x).data.toList = true) := box hq
    have HR : Box (moreT b (bs y).data.toList = v) := box (by rw [HV.out _ hq]; rfl)
    clear hq
    go_wp2_with fail
    refine (mIsSub1_is hxz HQ).mono ?_; rintro e w2 ⟨rfl, rfl⟩
    go_wp2
    go_loopw [4, 5, 6] (fun t q _ wr => MtR v 65000 w1 t q wr) (fun t q _ _ => (strLen t) + (if boolV q = true then 1 else 0))
    case atStart => exact ⟨bs y, b, rfl, rfl, hyz, HR.out, Below.refl _ _⟩
    case round =>
      obtain ⟨r, q, rfl, rfl, hr, hm, hbel⟩ := hrel
      have BL := box hbel
      have HM := box hm
      clear hm hbel
      cases q with
      | false =>
        have HF : Box (v = true) := box (by rw [← HM.out]; rfl)
        go_wp2
        go_ret
        exact ⟨ret_bool HF.out.symm, B1.out.trans (BL.out.mono B1.out.size)⟩
      | true =>
        have hT := more_cut r.data.toList
        rw [HM.out] at hT
        have hC := cut_small r.data.toList
        have hz : r.data.toList.length = r.size := by simp
        have hrm : r.size ≤ maxLen := by unfold maxLen; omega
        have HCV : Box (cutV 45 r.data.toList = .tuple #[.string (bs (cut1 45 r.data.toList)), .string (bs (cut2 45 r.data.toList)), .bool (cutB 45 r.data.toList)]) := box rfl
        obtain ⟨x', hx⟩ : ∃ x', cut1 45 r.data.toList = x' := ⟨_, rfl⟩
        obtain ⟨y', hy⟩ : ∃ y', cut2 45 r.data.toList = y' := ⟨_, rfl⟩
        obtain ⟨b', hb⟩ : ∃ b', cutB 45 r.data.toList = b' := ⟨_, rfl⟩
        rw [hx, hy, hb] at HCV
        rw [hx, hy, hb] at hT
        rw [hx, hy, hb] at hC
        have hxz' : (bs x').size ≤ 65000 := by rw [bs_size]; omega
        have hyz' : (bs y').size ≤ 65000 := by rw [bs_size]; omega
        have HY : Box ((bs y').size + (if b' = true then 1 else 0) < r.size + 1) := box (by
          rw [bs_size]
          cases b' with
          | true => have := hC.2.2 rfl; simp; omega
          | false => simp; omega)
        have HV2 : Box (∀ q, subOk false x' = q → v = (q && moreT b' y')) := box (fun q hq => by rw [← hq, hT])
        clear hx hy hb hT hC hz
        go_wp2_with fail
        refine (Cut_any r 45 _ hrm).mono ?_; rintro e w3 ⟨rfl, hb3⟩
        rw [HCV.out]
        have B3 := box (BL.out.trans (hb3.mono BL.out.size))
        clear hb3
        cases hq : subOk false x' with
        | false =>
          have HQ : Box (subOk false (bs x').data.toList = false) := box hq
          have HR : Box (v = false) := box (by rw [HV2.out _ hq]; rfl)
          clear hq
          go_wp2_with fail
          refine (mIsSub0_is hxz' HQ).mono ?_; rintro e w2 ⟨rfl, rfl⟩
          go_wp2
          go_ret
          exact ⟨ret_bool HR.out.symm, B1.out.trans (B3.out.mono B1.out.size)⟩
        | true =>
          have HQ : Box (subOk false (bs x').data.toList = true) := box hq
          have HR : Box (moreT b' (bs y').data.toList = v) := box (by rw [HV2.out _ hq]; rfl)
          clear hq
          go_wp2_with fail
          refine (mIsSub0_is hxz' HQ).mono ?_; rintro e w2 ⟨rfl, rfl⟩
          go_wp2
          go_roundw
          case rel => exact ⟨bs y', b', rfl, rfl, hyz', HR.out, B3.out⟩
          case measure => exact HY.out
theorem mTagM_is {s : ByteArray} {b : Bool} {w : World} (hs : s.size ≤ 65000) (h : Box (tagL s.data.toList = b)) :
    Calls Try.prog 9 #[.string s] w fun e w' => e = .returned (.bool b) ∧ Below w.heap.size w w' :=
  (mTag_any s w hs).mono fun e w' ⟨h1, h2⟩ => ⟨by rw [h1, h.out], h2⟩
theorem mRangeT_any (s : ByteArray) (w : World) (hs : s.size ≤ 65000) :
    Calls Try.prog 11 #[.string s] w fun e w' => e = .returned (.bool (rangeT s.data.toList)) ∧ Below w.heap.size w w' := by
  have hst := star_list (s := s)
  by_cases h : s.data.toList = [42]
  · rw [decide_eq_true h] at hst
    have HV : Box (rangeT s.data.toList = true) := box (by unfold rangeT; rw [decide_eq_true h, Bool.true_or])
    clear h
    go_enter Try.func11, Try.ntmps11
    go_wp2
    go_ret
    exact ⟨ret_bool HV.out.symm, Below.refl _ _⟩
  · rw [decide_eq_false h] at hst
    have HV : Box (rangeT s.data.toList = tagL s.data.toList) := box (by unfold rangeT; rw [decide_eq_false h, Bool.false_or])
    clear h
    go_enter Try.func11, Try.ntmps11
    go_wp2_with fail
    refine (mTag_any s _ hs).mono ?_; rintro e w1 ⟨rfl, hb1⟩
    go_wp2
    go_ret
    exact ⟨ret_bool HV.out.symm, hb1⟩
end
section
open Go.RowKit
theorem rRange_tis {s : ByteArray} {b : Bool} {w : World} (hs : s.size ≤ 65000) (h : Box (rangeT s.data.toList = b)) :
    Calls Try.prog 12 #[.string s] w fun e w' => e = .returned (.bool b) ∧ Below w.heap.size w w' :=
  (rRangeT_any s w hs).mono fun e w' ⟨h1, h2⟩ => ⟨by rw [h1, h.out], h2⟩
theorem rFold11_is {a b : ByteArray} {q : Bool} {w : World} (ha : a.size ≤ 4294967296) (hb : b.size ≤ 4294967296) (h : Box (foldL a.data.toList b.data.toList = q)) :
    Calls Try.prog 23 #[.string a, .string b] w fun e w' => e = .returned (.bool q) ∧ Below w.heap.size w w' :=
  (rFold_any a b w ha hb).mono fun e w' ⟨h1, h2⟩ => ⟨by rw [h1, h.out], h2⟩
def prefB : List ByteArray → List ByteArray → Bool
  | [], _ => true
  | _ :: _, [] => false
  | x :: xs, y :: ys => foldL x.data.toList y.data.toList && prefB xs ys
theorem pref_map : ∀ (A B : List (List UInt8)), prefB (A.map bs) (B.map bs) = prefS A B
  | [], _ => rfl
  | _ :: _, [] => rfl
  | x :: xs, y :: ys => by
    show (foldL (bs x).data.toList (bs y).data.toList && prefB (xs.map bs) (ys.map bs)) = (foldL x y && prefS xs ys)
    rw [pref_map xs ys]; rfl
theorem pref_end {A B : List ByteArray} {k : Nat} (h : A.length ≤ k) : prefB (A.drop k) (B.drop k) = true := by rw [List.drop_of_length_le h]; rfl
theorem pref_short {A B : List ByteArray} {k : Nat} (h : k < A.length) (hb : B.length ≤ k) : prefB (A.drop k) (B.drop k) = false := by
  rw [List.drop_eq_getElem_cons h, List.drop_of_length_le hb]; rfl
theorem pref_next {A B : List ByteArray} {k : Nat} (h : k < A.length) (hb : k < B.length) : prefB (A.drop k) (B.drop k) = (foldL A[k].data.toList B[k].data.toList && prefB (A.drop (k + 1)) (B.drop (k + 1))) := by
  rw [List.drop_eq_getElem_cons h, List.drop_eq_getElem_cons hb]; rfl
theorem subB_len (s : ByteArray) : (subB s.data.toList).length ≤ s.size + 1 := by
  have := sub_count s.data.toList
  have hz : s.data.toList.length = s.size := by simp
  unfold subB; rw [List.length_map]; omega
theorem subB_small (s : ByteArray) : ∀ k (h : k < (subB s.data.toList).length), (subB s.data.toList)[k].size ≤ s.size := by
  intro k hk
  have hk2 : k < (subL s.data.toList).length := by unfold subB at hk; simpa using hk
  have := (sub_mem s.data.toList _ (List.getElem_mem hk2)).2
  have hz : s.data.toList.length = s.size := by simp
  simp only [subB, List.getElem_map, bs_size]; omega
theorem match_no {r t : List UInt8} (h : (rangeT r && tagL t) = false) : matchT r t = -1 := by unfold matchT; rw [if_pos h]
theorem match_star {t : List UInt8} (h : tagL t = true) : matchT [42] t = 0 := by
  have hr : rangeT [42] = true := by decide +kernel
  unfold matchT; rw [hr, h]; simp
theorem match_pref {r t : List UInt8} (h1 : rangeT r = true) (h2 : tagL t = true) (h3 : r ≠ [42]) : matchT r t = if prefB (subB r) (subB t) = true then ((subB r).length : Int) else -1 := by
  unfold matchT
  rw [h1, h2, if_neg (by simp), if_neg h3]
  unfold subB
  rw [pref_map, List.length_map]
def MtRel (A B : List ByteArray) (W : World) (i : Value) (wr : World) : Prop := ∃ k : Nat, i = .int .i64 k ∧ k ≤ A.length ∧ k ≤ B.length ∧ prefB A B = prefB (A.drop k) (B.drop k) ∧ Below W.heap.size W wr
set_option maxHeartbeats 2000000 in
theorem rMatchT_pref (r t : ByteArray) (w : World) (hr : r.size ≤ 65000) (ht : t.size ≤ 65000) (h1 : Box (rangeT r.data.toList = true)) (h2 : Box (tagL t.data.toList = true)) (h3 : (r.toList == [42]) = false) (m : Int)
    (hm : Box ((if prefB (subB r.data.toList) (subB t.data.toList) = true then ((subB r.data.toList).length : Int) else -1) = m)) :
    Calls Try.prog 15 #[.string r, .string t] w fun e w' => e = .returned (.int .i64 m) ∧ Below w.heap.size w w' := by
  have hla := subB_len r
  have hlb := subB_len t
  have hza := subB_small r
  have hzb := subB_small t
  obtain ⟨A, hA⟩ : ∃ A, subB r.data.toList = A := ⟨_, rfl⟩
  obtain ⟨B, hB⟩ : ∃ B, subB t.data.toList = B := ⟨_, rfl⟩
  rw [hA] at hla hza hm
  rw [hB] at hlb hzb hm
  have HA := box hA
  have HB := box hB
  have ZA := box hza
  have ZB := box hzb
  clear hA hB hza hzb
  go_enter Try.func15, Try.ntmps15
  go_wp2_with fail
  refine (rRange_tis hr h1).mono ?_; rintro e w1 ⟨rfl, hb1⟩
  have B1 := box hb1
  clear hb1
  go_wp2_with fail
  refine (rTag_is ht h2).mono ?_; rintro e w2 ⟨rfl, hb2⟩
  have B2 := box (B1.out.trans (hb2.mono B1.out.size))
  clear hb2
  go_wp2_with fail
  refine (rSubs_any r _ hr).mono ?_; rintro e w3 ⟨v3, rfl, hO3, hb3⟩
  rw [HA.out] at hO3
  obtain ⟨a3, c3, rfl, hS3, hc3⟩ := hO3.ss
  have B3 := box (B2.out.trans (hb3.mono B2.out.size))
  have S3 := box hS3
  clear hO3 hb3 hS3
  go_wp2_with fail
  refine (rSubs_any t _ ht).mono ?_; rintro e w4 ⟨v4, rfl, hO4, hb4⟩
  rw [HB.out] at hO4
  obtain ⟨a4, c4, rfl, hS4, hc4⟩ := hO4.ss
  have B4 := box (B3.out.trans (hb4.mono B3.out.size))
  have SA := box (S3.out.below hb4)
  have SB := box hS4
  clear hO4 hb4 hS4 S3
  go_wp2
  go_loopw [7] (fun i wr => MtRel A B w4 i wr) (fun i _ => A.length - (intOf i).toNat)
  case atStart => exact ⟨0, rfl, Nat.zero_le _, Nat.zero_le _, rfl, Below.refl _ _⟩
  case round =>
    obtain ⟨k, rfl, hka, hkb, hq, hbel⟩ := hrel
    have HQ := box hq
    have BL := box hbel
    have FA := SA.out.below hbel
    have FB := SB.out.below hbel
    clear hq hbel
    by_cases hlt : k < A.length
    · have hai : (k : Int) < (A.length : Int) := by omega
      by_cases hkb2 : k < B.length
      · obtain ⟨x, hx⟩ : ∃ x, A[k] = x := ⟨_, rfl⟩
        obtain ⟨y, hy⟩ : ∃ y, B[k] = y := ⟨_, rfl⟩
        obtain ⟨g, off, rfl, cA⟩ := FA k hlt
        obtain ⟨g', off', rfl, cB⟩ := FB k hkb2
        rw [hx] at cA
        rw [hy] at cB
        have hxz : x.size ≤ 4294967296 := by have := ZA.out k hlt; rw [hx] at this; omega
        have hyz : y.size ≤ 4294967296 := by have := ZB.out k hkb2; rw [hy] at this; omega
        have hne : ((k : Int) == (B.length : Int)) = false := by rw [beq_eq_false_iff_ne]; omega
        have hbi : (k : Int) < (B.length : Int) := by omega
        have HN := box (pref_next hlt hkb2)
        rw [hx, hy] at HN
        have BS := BL.out.size
        clear FA FB
        cases hf : foldL x.data.toList y.data.toList with
        | true =>
          have HF := box hf
          have HP : Box (prefB A B = prefB (A.drop (k + 1)) (B.drop (k + 1))) := box (by rw [HQ.out, HN.out, hf, Bool.true_and])
          clear hf hx hy
          go_wp2
          go_region_held3 (fun w' => w'.cell? ⟨g, off + k, none⟩ = some (.string x) ∧ w'.cell? ⟨g', off' + k, none⟩ = some (.string y)) (first | exact ⟨(hb5.cell (cell_lt cA)).trans cA, (hb5.cell (cell_lt cB)).trans cB⟩ | exact ⟨cA, cB⟩) (first | (go_at_call 23; refine (rFold11_is hxz hyz HF).mono ?_; rintro e w5 ⟨rfl, hb5⟩))
          all_goals
            have B5 := box (BL.out.trans ((below_drewN _ _).trans hb5 |>.mono BS))
            clear hb5
            go_wp2
            go_roundw
            case rel => exact ⟨k + 1, by go_num, hlt, hkb2, HP.out, B5.out⟩
            case measure => simp [intOf]; omega
        | false =>
          have HF := box hf
          have HP : Box (m = -1) := box (by rw [← hm.out, HQ.out, HN.out, hf, Bool.false_and]; rfl)
          clear hf hx hy
          go_wp2
          go_region_held3 (fun w' => w'.cell? ⟨g, off + k, none⟩ = some (.string x) ∧ w'.cell? ⟨g', off' + k, none⟩ = some (.string y)) (first | exact ⟨(hb5.cell (cell_lt cA)).trans cA, (hb5.cell (cell_lt cB)).trans cB⟩ | exact ⟨cA, cB⟩) (first | (go_at_call 23; refine (rFold11_is hxz hyz HF).mono ?_; rintro e w5 ⟨rfl, hb5⟩))
          all_goals
            have B5 := box (BL.out.trans ((below_drewN _ _).trans hb5 |>.mono BS))
            clear hb5
            go_wp2
            go_ret
            exact ⟨by rw [HP.out]; rfl, B4.out.trans (B5.out.mono B4.out.size)⟩
      · have hke : k = B.length := by omega
        have hne : ((k : Int) == (B.length : Int)) = true := by rw [hke]; simp
        have HP : Box (m = -1) := box (by rw [← hm.out, HQ.out, pref_short hlt (by omega)]; rfl)
        clear FA FB hke
        go_wp2
        go_region
        all_goals
          go_wp2
          go_ret
          exact ⟨by rw [HP.out]; rfl, B4.out.trans ((BL.out.trans ((below_drewN _ _).mono BL.out.size)).mono B4.out.size)⟩
    · have HP : Box (m = (A.length : Int)) := box (by rw [← hm.out, HQ.out, pref_end (by omega)]; rfl)
      have hai : ¬ (k : Int) < (A.length : Int) := by omega
      clear FA FB
      go_wp2
      go_ret
      exact ⟨by rw [HP.out]; rfl, B4.out.trans (BL.out.mono B4.out.size)⟩
theorem rMatchT_any (r t : ByteArray) (w : World) (hr : r.size ≤ 65000) (ht : t.size ≤ 65000) :
    Calls Try.prog 15 #[.string r, .string t] w fun e w' => e = .returned (.int .i64 (matchT r.data.toList t.data.toList)) ∧ Below w.heap.size w w' := by
  cases h1 : rangeT r.data.toList with
  | false =>
    have HV : Box (matchT r.data.toList t.data.toList = -1) := box (match_no (by rw [h1]; rfl))
    have H1 := box h1
    clear h1
    go_enter Try.func15, Try.ntmps15
    go_wp2_with fail
    refine (rRange_tis hr H1).mono ?_; rintro e w1 ⟨rfl, hb1⟩
    go_wp2
    go_ret
    exact ⟨by rw [HV.out]; rfl, hb1⟩
  | true =>
    have H1 := box h1
    cases h2 : tagL t.data.toList with
    | false =>
      have HV : Box (matchT r.data.toList t.data.toList = -1) := box (match_no (by rw [h1, h2]; rfl))
      have H2 := box h2
      clear h1 h2
      go_enter Try.func15, Try.ntmps15
      go_wp2_with fail
      refine (rRange_tis hr H1).mono ?_; rintro e w1 ⟨rfl, hb1⟩
      have B1 := box hb1
      clear hb1
      go_wp2_with fail
      refine (rTag_is ht H2).mono ?_; rintro e w2 ⟨rfl, hb2⟩
      have B2 := box (B1.out.trans (hb2.mono B1.out.size))
      clear hb2
      go_wp2
      go_ret
      exact ⟨by rw [HV.out]; rfl, B2.out⟩
    | true =>
      have H2 := box h2
      have hst := star_list (s := r)
      by_cases h3 : r.data.toList = [42]
      · have HV : Box (matchT r.data.toList t.data.toList = 0) := box (by rw [h3]; exact match_star h2)
        rw [decide_eq_true h3] at hst
        clear h1 h2 h3
        go_enter Try.func15, Try.ntmps15
        go_wp2_with fail
        refine (rRange_tis hr H1).mono ?_; rintro e w1 ⟨rfl, hb1⟩
        have B1 := box hb1
        clear hb1
        go_wp2_with fail
        refine (rTag_is ht H2).mono ?_; rintro e w2 ⟨rfl, hb2⟩
        have B2 := box (B1.out.trans (hb2.mono B1.out.size))
        clear hb2
        go_wp2
        go_ret
        exact ⟨by rw [HV.out]; rfl, B2.out⟩
      · rw [decide_eq_false h3] at hst
        refine (rMatchT_pref r t w hr ht H1 H2 hst _ (box rfl)).mono fun e w' ⟨he, hb⟩ => ⟨?_, hb⟩
        rw [he, match_pref h1 h2 h3]
theorem rMatchT_is {r t : ByteArray} {i : Int} {w : World} (hr : r.size ≤ 65000) (ht : t.size ≤ 65000) (h : Box (matchT r.data.toList t.data.toList = i)) :
    Calls Try.prog 15 #[.string r, .string t] w fun e w' => e = .returned (.int .i64 i) ∧ Below w.heap.size w w' :=
  (rMatchT_any r t w hr ht).mono fun e w' ⟨h1, h2⟩ => ⟨by rw [h1, h.out], h2⟩
end
section
theorem joinS_cons {x : List UInt8} {L : List (List UInt8)} (h : L ≠ []) : joinS (x :: L) = x ++ 45 :: joinS L := by
  match L, h with
  | y :: r, _ => rfl
theorem joinS_snoc : ∀ {L : List (List UInt8)} {x : List UInt8}, L ≠ [] → joinS (L ++ [x]) = joinS L ++ 45 :: x
  | [], _, h => absurd rfl h
  | [y], x, _ => rfl
  | y :: z :: r, x, _ => by
    rw [List.cons_append, joinS_cons (x := y) (L := z :: r ++ [x]) (by simp), joinS_snoc (L := z :: r) (by simp), joinS_cons (x := y) (L := z :: r) (by simp)]; simp
theorem join_take_one {A : List (List UInt8)} (h : 0 < A.length) : joinS (A.take 1) = A[0] := by
  match A, h with
  | x :: xs, _ => rfl
theorem join_take_next {A : List (List UInt8)} {i : Nat} (h0 : 0 < i) (h : i < A.length) : joinS (A.take (i + 1)) = joinS (A.take i) ++ 45 :: A[i] := by
  rw [List.take_succ_eq_append_getElem h, joinS_snoc]
  intro e
  have := congrArg List.length e
  rw [List.length_take, List.length_nil] at this
  omega
theorem join_take_le {A : List (List UInt8)} : ∀ (i : Nat), (joinS (A.take i)).length ≤ (joinS A).length := by
  intro i
  by_cases h : A.length ≤ i
  · rw [List.take_of_length_le h]; exact Nat.le_refl _
  · have e : A = A.take i ++ A.drop i := (List.take_append_drop i A).symm
    have hd : A.drop i ≠ [] := by intro q; have := congrArg List.length q; simp at this; omega
    have key : ∀ (P Q : List (List UInt8)), (joinS P).length ≤ (joinS (P ++ Q)).length := by
      intro P Q
      induction P with
      | nil => simp [joinS]
      | cons p P ih =>
        by_cases hP : P = []
        · subst hP
          by_cases hQ : Q = []
          · subst hQ; simp
          · rw [List.cons_append, List.nil_append, joinS_cons hQ]; simp [joinS]
        · rw [List.cons_append, joinS_cons hP, joinS_cons (by simp [hP])]; simp only [List.length_append, List.length_cons]; omega
    have := key (A.take i) (A.drop i)
    rwa [← e] at this
theorem cutS_len {L : List (List UInt8)} (h : L ≠ []) : (cutS L).length < L.length := by
  have hl : 0 < L.length := List.length_pos_iff.2 h
  unfold cutS
  split
  · rw [List.length_dropLast, List.length_dropLast]; omega
  · rw [List.length_dropLast]; omega
theorem lookF_fuel (T : List ByteArray) : ∀ (f g : Nat) (L : List (List UInt8)), L.length ≤ f → L.length ≤ g → lookF T f L = lookF T g L
  | 0, 0, _, _, _ => rfl
  | 0, g + 1, L, h, _ => by
    have : L = [] := List.length_eq_zero_iff.1 (by omega)
    subst this; unfold lookF; rw [if_pos rfl]
  | f + 1, 0, L, _, h => by
    have : L = [] := List.length_eq_zero_iff.1 (by omega)
    subst this; unfold lookF; rw [if_pos rfl]
  | f + 1, g + 1, L, hf, hg => by
    unfold lookF
    by_cases h : L = []
    · rw [if_pos h, if_pos h]
    · rw [if_neg h, if_neg h]
      cases findT (joinS L) T with
      | some k => rfl
      | none => have := cutS_len h; exact lookF_fuel T f g (cutS L) (by omega) (by omega)
/-- truncation of the first n subtags -/
def lookN (T : List ByteArray) (A : List (List UInt8)) (n : Nat) : Int := lookF T n (A.take n)
theorem look_none {T : List ByteArray} {A : List (List UInt8)} : lookN T A 0 = -1 := rfl
theorem take_ne {A : List (List UInt8)} {n : Nat} (h0 : 0 < n) (h : n ≤ A.length) : A.take n ≠ [] := by
  intro e
  have := congrArg List.length e
  rw [List.length_take, List.length_nil] at this
  omega
theorem look_hit {T : List ByteArray} {A : List (List UInt8)} {n k : Nat} (h0 : 0 < n) (h : n ≤ A.length) (hf : findT (joinS (A.take n)) T = some k) : lookN T A n = (k : Int) := by
  obtain ⟨m, rfl⟩ : ∃ m, n = m + 1 := ⟨n - 1, by omega⟩
  unfold lookN lookF
  rw [if_neg (take_ne h0 h), hf]
theorem cutS_take {A : List (List UInt8)} {n : Nat} (h0 : 0 < n) (h : n ≤ A.length) : cutS (A.take n) = A.take (if h2 : 2 ≤ n then (if (A[n - 2]'(by omega)).length = 1 then n - 2 else n - 1) else 0) := by
  have e1 : (A.take n).dropLast = A.take (n - 1) := by rw [List.dropLast_eq_take, List.length_take, List.take_take]; congr 1; omega
  unfold cutS
  rw [e1]
  by_cases h2 : 2 ≤ n
  · rw [dif_pos h2]
    have e2 : (A.take (n - 1)).getLast? = some (A[n - 2]'(by omega)) := by
      rw [List.getLast?_eq_getElem?, List.length_take, show min (n - 1) A.length - 1 = n - 2 from by omega, List.getElem?_take, if_pos (by omega), List.getElem?_eq_getElem]
    rw [e2]
    have e3 : (A.take (n - 1)).dropLast = A.take (n - 2) := by rw [List.dropLast_eq_take, List.length_take, List.take_take]; congr 1; omega
    rw [e3]
    by_cases h3 : (A[n - 2]'(by omega)).length = 1
    · rw [if_pos h3, if_pos (by rw [Option.map_some, h3])]
    · rw [if_neg h3, if_neg (by rw [Option.map_some]; intro q; exact h3 (by simpa using q))]
  · rw [dif_neg h2]
    have : n = 1 := by omega
    subst this
    simp
theorem look_next {T : List ByteArray} {A : List (List UInt8)} {n : Nat} (h0 : 0 < n) (h : n ≤ A.length) (hf : findT (joinS (A.take n)) T = none) {m : Nat} (hm : cutS (A.take n) = A.take m) (hmn : m < n) : lookN T A n = lookN T A m := by
  obtain ⟨k, rfl⟩ : ∃ k, n = k + 1 := ⟨n - 1, by omega⟩
  unfold lookN
  conv => lhs; unfold lookF
  rw [if_neg (take_ne h0 h), hf]
  simp only
  rw [hm]
  exact lookF_fuel T _ _ _ (by rw [List.length_take]; omega) (by rw [List.length_take]; omega)
theorem look_one {T : List ByteArray} {A : List (List UInt8)} (h : 1 ≤ A.length) (hf : findT (joinS (A.take 1)) T = none) : lookN T A 1 = -1 := by
  rw [look_next (by omega) h hf (m := 0) (by rw [cutS_take (by omega) h]; rfl) (by omega)]; rfl
theorem look_long {T : List ByteArray} {A : List (List UInt8)} {n : Nat} (h2 : 2 ≤ n) (h : n ≤ A.length) (hf : findT (joinS (A.take n)) T = none) (hs : ¬ (A[n - 2]'(by omega)).length = 1) : lookN T A n = lookN T A (n - 1) :=
  look_next (by omega) h hf (by rw [cutS_take (by omega) h, dif_pos h2, if_neg hs]) (by omega)
theorem look_short {T : List ByteArray} {A : List (List UInt8)} {n : Nat} (h2 : 2 ≤ n) (h : n ≤ A.length) (hf : findT (joinS (A.take n)) T = none) (hs : (A[n - 2]'(by omega)).length = 1) : lookN T A n = lookN T A (n - 2) :=
  look_next (by omega) h hf (by rw [cutS_take (by omega) h, dif_pos h2, if_pos hs]) (by omega)
theorem look_all (r : List UInt8) (T : List ByteArray) (h : tagL r = true) : lookT r T = lookN T (subL r) (subL r).length := by
  unfold lookT lookN; rw [if_pos h, List.take_length]
theorem look_not (r : List UInt8) (T : List ByteArray) (h : tagL r = false) : lookT r T = -1 := by unfold lookT; rw [if_neg (by rw [h]; simp)]
theorem find_at {x : List UInt8} {T : List ByteArray} {k : Nat} (hk : k < T.length) (h : foldL x T[k].data.toList = true) (hn : ∀ j (hj : j < T.length), j < k → foldL x T[j].data.toList = false) : findT x T = some k := by
  unfold findT
  rw [List.findIdx?_eq_some_iff_getElem]
  exact ⟨hk, h, fun j hj => by rw [hn j (by omega) hj]; simp⟩
theorem find_no {x : List UInt8} {T : List ByteArray} (hn : ∀ j (hj : j < T.length), foldL x T[j].data.toList = false) : findT x T = none := by
  unfold findT
  rw [List.findIdx?_eq_none_iff]
  intro t ht
  obtain ⟨j, hj, rfl⟩ := List.getElem_of_mem ht
  exact hn j hj
end
section
def chkL (n : Nat) : Bool := ((lowB (UInt8.ofNat n) == 45) == (UInt8.ofNat n == 45)) && ((lowB (UInt8.ofNat n) == 42) == (UInt8.ofNat n == 42)) && (lettI (lowB (UInt8.ofNat n)).toNat == lettI (n : Int)) && (digitI (lowB (UInt8.ofNat n)).toNat == digitI (n : Int))
theorem chkL_all : ∀ x : Fin 256, chkL x.1 = true := by decide +kernel
theorem low_more (c : UInt8) : (lowB c = 45 ↔ c = 45) ∧ (lowB c = 42 ↔ c = 42) ∧ lettI (lowB c).toNat = lettI c.toNat ∧ digitI (lowB c).toNat = digitI c.toNat := by
  have k := chkL_all ⟨c.toNat, c.toNat_lt⟩
  unfold chkL at k
  simp only [UInt8.ofNat_toNat, Bool.and_eq_true, beq_iff_eq] at k
  obtain ⟨⟨⟨k1, k2⟩, k3⟩, k4⟩ := k
  exact ⟨by rw [← beq_iff_eq, k1, beq_iff_eq], by rw [← beq_iff_eq, k2, beq_iff_eq], k3, k4⟩
theorem lowL_cons (c : UInt8) (r : List UInt8) : lowL (c :: r) = lowB c :: lowL r := rfl
theorem sub_low : ∀ l : List UInt8, subL (lowL l) = (subL l).map lowL
  | [] => rfl
  | c :: r => by
    have ih := sub_low r
    obtain ⟨x, xs, e⟩ := subL_cons r
    rw [e, List.map_cons] at ih
    rw [lowL_cons]
    by_cases hc : c = 45
    · have h2 := (low_more c).1.2 hc
      rw [h2, hc, subL_hyp, subL_hyp, ih, e]; rfl
    · have h2 : ¬ lowB c = 45 := fun q => hc ((low_more c).1.1 q)
      rw [subL_chr h2 ih, subL_chr hc e]; rfl
theorem lowL_len2 (l : List UInt8) : (lowL l).length = l.length := by simp [lowL]
theorem subOk_low (f : Bool) (x : List UInt8) : subOk f (lowL x) = subOk f x := by
  unfold subOk
  rw [lowL_len2, lowL_map, List.all_map]
  congr 1
  apply List.all_congr rfl
  intro c
  have h := low_more c
  show (lettI (lowB c).toNat || (!f && digitI (lowB c).toNat)) = _
  rw [h.2.2.1, h.2.2.2]
theorem subsOk_low : ∀ L : List (List UInt8), subsOk (L.map lowL) = subsOk L
  | [] => rfl
  | x :: xs => by
    show (subOk true (lowL x) && (xs.map lowL).all (subOk false)) = (subOk true x && xs.all (subOk false))
    rw [subOk_low, List.all_map]
    congr 1
    apply List.all_congr rfl
    intro y
    exact subOk_low false y
theorem tag_low (l : List UInt8) : tagL (lowL l) = tagL l := by unfold tagL; rw [sub_low, subsOk_low]
theorem star_low (l : List UInt8) : lowL l = [42] ↔ l = [42] := by
  match l with
  | [] => simp [lowL]
  | [c] => rw [lowL_cons]; simp [lowL, (low_more c).2.1]
  | _ :: _ :: _ => simp [lowL]
theorem range_low (l : List UInt8) : rangeT (lowL l) = rangeT l := by
  unfold rangeT
  rw [tag_low, decide_eq_decide.2 (star_low l)]
theorem foldL_low (x y : List UInt8) : foldL (lowL x) (lowL y) = foldL x y := by unfold foldL; rw [low_low, low_low]
theorem pref_low : ∀ A B : List (List UInt8), prefS (A.map lowL) (B.map lowL) = prefS A B
  | [], _ => rfl
  | _ :: _, [] => rfl
  | x :: xs, y :: ys => by
    show (foldL (lowL x) (lowL y) && prefS (xs.map lowL) (ys.map lowL)) = (foldL x y && prefS xs ys)
    rw [foldL_low, pref_low xs ys]
theorem match_low (r t : List UInt8) : matchT (lowL r) (lowL t) = matchT r t := by
  unfold matchT
  rw [range_low, tag_low, sub_low, sub_low, pref_low, List.length_map]
  simp only [star_low]
theorem join_low : ∀ L : List (List UInt8), joinS (L.map lowL) = lowL (joinS L)
  | [] => rfl
  | [x] => rfl
  | x :: y :: r => by
    have ih := join_low (y :: r)
    rw [List.map_cons, joinS_cons (by simp), ih, joinS_cons (x := x) (L := y :: r) (by simp)]
    simp [lowL_map]; rfl
theorem find_low (x : List UInt8) (T : List ByteArray) : findT (lowL x) (T.map fun t => bs (lowL t.data.toList)) = findT x T := by
  unfold findT
  rw [List.findIdx?_map]
  congr 1
  funext t
  exact foldL_low x t.data.toList
theorem dropL_map (L : List (List UInt8)) : (L.map lowL).dropLast = L.dropLast.map lowL := by rw [List.dropLast_eq_take, List.dropLast_eq_take, List.map_take, List.length_map]
theorem cut_low (L : List (List UInt8)) : cutS (L.map lowL) = (cutS L).map lowL := by
  have e : (L.map lowL).dropLast = L.dropLast.map lowL := dropL_map L
  have e2 : ((L.dropLast.map lowL).getLast?.map List.length) = (L.dropLast.getLast?.map List.length) := by
    rw [List.getLast?_map, Option.map_map]
    congr 1
    funext z
    exact lowL_len2 z
  unfold cutS
  rw [e, e2]
  split
  · exact dropL_map _
  · rfl
theorem lookF_low (T : List ByteArray) : ∀ (f : Nat) (L : List (List UInt8)), lookF (T.map fun t => bs (lowL t.data.toList)) f (L.map lowL) = lookF T f L
  | 0, L => rfl
  | f + 1, L => by
    unfold lookF
    by_cases h : L = []
    · subst h; rfl
    · rw [if_neg h, if_neg (by simpa using h), join_low, find_low, cut_low]
      cases findT (joinS L) T with
      | some k => rfl
      | none => exact lookF_low T f (cutS L)
theorem look_low (r : List UInt8) (T : List ByteArray) : lookT (lowL r) (T.map fun t => bs (lowL t.data.toList)) = lookT r T := by
  unfold lookT
  rw [tag_low, sub_low, List.length_map, lookF_low]
end
section
open Go.RowKit
/-- does t begin with the subtags r? byte by byte -/
def begL : List UInt8 → List UInt8 → Bool
  | [], [] => true
  | [], d :: _ => decide (d = 45)
  | _ :: _, [] => false
  | c :: r, d :: t => decide (lowB c = lowB d) && begL r t
theorem fold_nil (y : List UInt8) : foldL [] y = decide (y = []) := by
  unfold foldL
  cases y with
  | nil => rfl
  | cons d y => rw [lowL_cons]; rfl
theorem fold_cons (c d : UInt8) (x y : List UInt8) : foldL (c :: x) (d :: y) = (decide (lowB c = lowB d) && foldL x y) := by
  unfold foldL
  rw [lowL_cons, lowL_cons, Bool.eq_iff_iff]
  simp
theorem fold_one (c : UInt8) (x : List UInt8) : foldL (c :: x) [] = false := by
  unfold foldL
  rw [lowL_cons]; rfl
theorem pref_beg : ∀ r t : List UInt8, prefS (subL r) (subL t) = begL r t
  | [], [] => rfl
  | [], d :: t => by
    show prefS [[]] (subL (d :: t)) = decide (d = 45)
    by_cases hd : d = 45
    · subst hd; rw [subL_hyp]; rfl
    · obtain ⟨y, ys, e⟩ := subL_cons t
      rw [subL_chr hd e, decide_eq_false hd]
      show (foldL [] (d :: y) && _) = false
      rw [fold_nil]; rfl
  | c :: r, [] => by
    obtain ⟨x, xs, e⟩ := subL_cons r
    show prefS (subL (c :: r)) [[]] = false
    by_cases hc : c = 45
    · subst hc; rw [subL_hyp, e]; rfl
    · rw [subL_chr hc e]
      show (foldL (c :: x) [] && _) = false
      rw [fold_one]; rfl
  | c :: r, d :: t => by
    have ih := pref_beg r t
    obtain ⟨x, xs, e⟩ := subL_cons r
    obtain ⟨y, ys, e2⟩ := subL_cons t
    show _ = (decide (lowB c = lowB d) && begL r t)
    by_cases hc : c = 45
    · subst hc
      rw [subL_hyp]
      by_cases hd : d = 45
      · subst hd
        rw [subL_hyp, ← ih]; rfl
      · have hn : ¬ lowB 45 = lowB d := by
          intro q
          have : lowB (45 : UInt8) = 45 := by decide +kernel
          rw [this] at q
          exact hd ((low_more d).1.1 q.symm)
        rw [subL_chr hd e2, decide_eq_false hn, Bool.false_and]
        show (foldL [] (d :: y) && _) = false
        rw [fold_nil]; rfl
    · rw [subL_chr hc e]
      by_cases hd : d = 45
      · subst hd
        have hn : ¬ lowB c = lowB 45 := by
          intro q
          have : lowB (45 : UInt8) = 45 := by decide +kernel
          rw [this] at q
          exact hc ((low_more c).1.1 q)
        rw [subL_hyp, decide_eq_false hn, Bool.false_and]
        show (foldL (c :: x) [] && _) = false
        rw [fold_one]; rfl
      · rw [subL_chr hd e2]
        show (foldL (c :: x) (d :: y) && prefS xs ys) = _
        rw [fold_cons, Bool.and_assoc]
        rw [e, e2] at ih
        rw [← ih]; rfl
theorem fold_swap (x y : List UInt8) : foldL x y = foldL y x := by unfold foldL; rw [Bool.eq_iff_iff]; simp [eq_comm]
theorem beg_short : ∀ {r t : List UInt8}, t.length < r.length → begL r t = false
  | [], _, h => absurd h (Nat.not_lt_zero _)
  | _ :: _, [], _ => rfl
  | c :: r, d :: t, h => by show (_ && begL r t) = false; rw [beg_short (by simpa using h), Bool.and_false]
theorem beg_at : ∀ {r t : List UInt8}, r.length ≤ t.length → begL r t = (foldL (t.take r.length) r && (decide (t.length = r.length) || decide (t.getD r.length 0 = 45)))
  | [], [], _ => rfl
  | [], d :: t, _ => by simp [begL, fold_nil]
  | _ :: _, [], h => by simp at h
  | c :: r, d :: t, h => by
    have ih := beg_at (r := r) (t := t) (by simpa using h)
    have e1 : decide (lowB d = lowB c) = decide (lowB c = lowB d) := decide_eq_decide.2 eq_comm
    have e2 : decide ((d :: t).length = (c :: r).length) = decide (t.length = r.length) := decide_eq_decide.2 (by rw [List.length_cons, List.length_cons]; omega)
    have e3 : (d :: t).getD (c :: r).length 0 = t.getD r.length 0 := rfl
    have e4 : (d :: t).take (c :: r).length = d :: t.take r.length := rfl
    rw [e2, e3, e4, fold_cons, e1, Bool.and_assoc, ← ih]; rfl
theorem count_sub : ∀ l : List UInt8, (subL l).length = Lib.countByte l 45 + 1
  | [] => rfl
  | c :: r => by
    have ih := count_sub r
    obtain ⟨x, xs, e⟩ := subL_cons r
    unfold Lib.countByte at ih ⊢
    rw [List.count_cons]
    by_cases hc : c = 45
    · subst hc; rw [subL_hyp]; simp; omega
    · rw [subL_chr hc e]
      rw [e] at ih
      rw [if_neg (by simpa using hc)]
      simpa using ih
theorem mCount_any (s : ByteArray) (w : World) (hs : s.size ≤ 65000) :
    Calls Try.prog 31 #[.string s, .string ⟨#[45]⟩] w fun e w' => e = .returned (.int .i64 (Lib.countByte s.data.toList 45 : Nat)) ∧ w = w' := by
  have hone : ((⟨#[45]⟩ : ByteArray).size : Int) = 1 := rfl
  go_enter Try.func31, Try.ntmps31
  go_wp2
  rw [run_callFunc_extern Try.func37 (by kernel_rfl) (by kernel_rfl) (by kernel_rfl) (e := Extern.BytealgCount.count) (by kernel_rfl), Lib.run_countString]
  simp only [Result.andThen]
  rw [Oper.upon_value]
  go_wp2
  go_ret
  exact ⟨rfl, rfl⟩
theorem mFold16_is {a b : ByteArray} {q : Bool} {w : World} (ha : a.size ≤ 65536) (hb : b.size ≤ 65536) (h : Box (foldL a.data.toList b.data.toList = q)) :
    Calls Try.prog 33 #[.string a, .string b] w fun e w' => e = .returned (.bool q) ∧ Below w.heap.size w w' :=
  (Fold_any a b w (by unfold maxLen; omega) (by unfold maxLen; omega)).mono fun e w' ⟨h1, h2⟩ => ⟨by rw [h1, h.out], h2⟩
theorem mFold11_is {a b : ByteArray} {q : Bool} {w : World} (ha : a.size ≤ 65000) (hb : b.size ≤ 65000) (h : Box (foldL a.data.toList b.data.toList = q)) :
    Calls Try.prog 33 #[.string a, .string b] w fun e w' => e = .returned (.bool q) ∧ Below w.heap.size w w' :=
  (Fold_any a b w (by unfold maxLen; omega) (by unfold maxLen; omega)).mono fun e w' ⟨h1, h2⟩ => ⟨by rw [h1, h.out], h2⟩
set_option maxHeartbeats 1000000 in
theorem mBeg_any (t r : ByteArray) (w : World) (ht : t.size ≤ 65000) (hr : r.size ≤ 65000) :
    Calls Try.prog 30 #[.string t, .string r] w fun e w' => e = .returned (.bool (begL r.data.toList t.data.toList)) ∧ Below w.heap.size w w' := by
  have hzr : r.data.toList.length = r.size := by simp
  have hzt : t.data.toList.length = t.size := by simp
  by_cases hlt : t.size < r.size
  · have HV : Box (begL r.data.toList t.data.toList = false) := box (beg_short (by omega))
    have hi : (t.size : Int) < (r.size : Int) := by omega
    clear hzr hzt
    go_enter Try.func30, Try.ntmps30
    go_wp2
    go_ret
    exact ⟨ret_bool HV.out.symm, Below.refl _ _⟩
  · have hV := beg_at (r := r.data.toList) (t := t.data.toList) (by omega)
    have hi : ¬ (t.size : Int) < (r.size : Int) := by omega
    have hi2 : (r.size : Int) ≤ (t.size : Int) := by omega
    have hi3 : (0 : Int) ≤ (r.size : Int) := by omega
    have hez : (t.extract 0 r.size).size ≤ 65000 := by rw [ByteArray.size_extract]; omega
    have HX : Box ((t.extract 0 r.size).data.toList = t.data.toList.take r.data.toList.length) := box (by rw [ext_bs, bs_toList, List.drop_zero, hzr])
    cases hf : foldL (t.data.toList.take r.data.toList.length) r.data.toList with
    | false =>
      have HF : Box (foldL (t.extract 0 r.size).data.toList r.data.toList = false) := box (by rw [HX.out, hf])
      have HV : Box (begL r.data.toList t.data.toList = false) := box (by rw [hV, hf, Bool.false_and])
      clear hzr hzt hV hf
      go_enter Try.func30, Try.ntmps30
      go_wp2_with fail
      refine (mFold11_is hez hr HF).mono ?_; rintro e w1 ⟨rfl, hb1⟩
      go_wp2
      go_ret
      exact ⟨ret_bool HV.out.symm, hb1⟩
    | true =>
      have HF : Box (foldL (t.extract 0 r.size).data.toList r.data.toList = true) := box (by rw [HX.out, hf])
      rw [hf, Bool.true_and] at hV
      by_cases he : t.size = r.size
      · have hei : ((t.size : Int) == (r.size : Int)) = true := by rw [he]; simp
        have HV : Box (begL r.data.toList t.data.toList = true) := box (by rw [hV, hzr, hzt, decide_eq_true he, Bool.true_or])
        clear hzr hzt hV hf he
        go_enter Try.func30, Try.ntmps30
        go_wp2_with fail
        refine (mFold11_is hez hr HF).mono ?_; rintro e w1 ⟨rfl, hb1⟩
        go_wp2
        go_ret
        exact ⟨ret_bool HV.out.symm, hb1⟩
      · have hei : ((t.size : Int) == (r.size : Int)) = false := by rw [beq_eq_false_iff_ne]; omega
        have hlt2 : r.size < t.size := by omega
        have hli : (r.size : Int) < (t.size : Int) := by omega
        have hg : t.data.toList.getD r.data.toList.length 0 = t[r.size] := by rw [hzr, getD_get _ _ (by omega)]; rfl
        obtain ⟨c, hc⟩ : ∃ c, t[r.size] = c := ⟨_, rfl⟩
        have HV : Box (begL r.data.toList t.data.toList = ((c.toNat : Int) == 45)) := box (by
          rw [hV, hzr, hzt, decide_eq_false he, Bool.false_or, ← hzr, hg, hc, Bool.eq_iff_iff]
          simp only [decide_eq_true_eq, beq_iff_eq]
          constructor
          · intro q; rw [q]; rfl
          · intro q; exact UInt8.toNat_inj.mp (by show c.toNat = 45; omega))
        have HCQ := box hc
        clear hzr hzt hV hf he hg
        go_enter Try.func30, Try.ntmps30
        go_wp2_with fail
        refine (mFold11_is hez hr HF).mono ?_; rintro e w1 ⟨rfl, hb1⟩
        go_wp2
        go_ret
        exact ⟨ret_bool HV.out.symm, hb1⟩
theorem mBeg_is {t r : ByteArray} {q : Bool} {w : World} (ht : t.size ≤ 65000) (hr : r.size ≤ 65000) (h : Box (begL r.data.toList t.data.toList = q)) :
    Calls Try.prog 30 #[.string t, .string r] w fun e w' => e = .returned (.bool q) ∧ Below w.heap.size w w' :=
  (mBeg_any t r w ht hr).mono fun e w' ⟨h1, h2⟩ => ⟨by rw [h1, h.out], h2⟩
theorem mRangeM_is {s : ByteArray} {b : Bool} {w : World} (hs : s.size ≤ 65000) (h : Box (rangeT s.data.toList = b)) :
    Calls Try.prog 11 #[.string s] w fun e w' => e = .returned (.bool b) ∧ Below w.heap.size w w' :=
  (mRangeT_any s w hs).mono fun e w' ⟨h1, h2⟩ => ⟨by rw [h1, h.out], h2⟩
theorem match_beg {r t : List UInt8} (h1 : rangeT r = true) (h2 : tagL t = true) (h3 : r ≠ [42]) : matchT r t = if begL r t = true then 1 + (Lib.countByte r 45 : Int) else -1 := by
  unfold matchT
  rw [h1, h2, if_neg (by simp), if_neg h3, pref_beg, count_sub]
  split
  · push_cast; omega
  · rfl
set_option maxHeartbeats 1000000 in
theorem mMatchT_any (r t : ByteArray) (w : World) (hr : r.size ≤ 65000) (ht : t.size ≤ 65000) :
    Calls Try.prog 14 #[.string r, .string t] w fun e w' => e = .returned (.int .i64 (matchT r.data.toList t.data.toList)) ∧ Below w.heap.size w w' := by
  cases h1 : rangeT r.data.toList with
  | false =>
    have HV : Box (matchT r.data.toList t.data.toList = -1) := box (match_no (by rw [h1]; rfl))
    have H1 := box h1
    clear h1
    go_enter Try.func14, Try.ntmps14
    go_wp2_with fail
    refine (mRangeM_is hr H1).mono ?_; rintro e w1 ⟨rfl, hb1⟩
    go_wp2
    go_ret
    exact ⟨by rw [HV.out]; rfl, hb1⟩
  | true =>
    have H1 := box h1
    cases h2 : tagL t.data.toList with
    | false =>
      have HV : Box (matchT r.data.toList t.data.toList = -1) := box (match_no (by rw [h1, h2]; rfl))
      have H2 := box h2
      clear h1 h2
      go_enter Try.func14, Try.ntmps14
      go_wp2_with fail
      refine (mRangeM_is hr H1).mono ?_; rintro e w1 ⟨rfl, hb1⟩
      have B1 := box hb1
      clear hb1
      go_wp2_with fail
      refine (mTagM_is ht H2).mono ?_; rintro e w2 ⟨rfl, hb2⟩
      have B2 := box (B1.out.trans (hb2.mono B1.out.size))
      clear hb2
      go_wp2
      go_ret
      exact ⟨by rw [HV.out]; rfl, B2.out⟩
    | true =>
      have H2 := box h2
      have hst := star_list (s := r)
      by_cases h3 : r.data.toList = [42]
      · have HV : Box (matchT r.data.toList t.data.toList = 0) := box (by rw [h3]; exact match_star h2)
        rw [decide_eq_true h3] at hst
        clear h1 h2 h3
        go_enter Try.func14, Try.ntmps14
        go_wp2_with fail
        refine (mRangeM_is hr H1).mono ?_; rintro e w1 ⟨rfl, hb1⟩
        have B1 := box hb1
        clear hb1
        go_wp2_with fail
        refine (mTagM_is ht H2).mono ?_; rintro e w2 ⟨rfl, hb2⟩
        have B2 := box (B1.out.trans (hb2.mono B1.out.size))
        clear hb2
        go_wp2
        go_ret
        exact ⟨by rw [HV.out]; rfl, B2.out⟩
      · rw [decide_eq_false h3] at hst
        have hM := match_beg h1 h2 h3
        have hcb : Lib.countByte r.data.toList 45 ≤ r.data.toList.length := List.count_le_length
        have hzr : r.data.toList.length = r.size := by simp
        cases hb : begL r.data.toList t.data.toList with
        | false =>
          have HB := box hb
          have HV : Box (matchT r.data.toList t.data.toList = -1) := box (by rw [hM, hb]; rfl)
          clear h1 h2 h3 hM hcb hzr hb
          go_enter Try.func14, Try.ntmps14
          go_wp2_with fail
          refine (mRangeM_is hr H1).mono ?_; rintro e w1 ⟨rfl, hb1⟩
          have B1 := box hb1
          clear hb1
          go_wp2_with fail
          refine (mTagM_is ht H2).mono ?_; rintro e w2 ⟨rfl, hb2⟩
          have B2 := box (B1.out.trans (hb2.mono B1.out.size))
          clear hb2
          go_wp2_with fail
          refine (mBeg_is ht hr HB).mono ?_; rintro e w3 ⟨rfl, hb3⟩
          have B3 := box (B2.out.trans (hb3.mono B2.out.size))
          clear hb3
          go_wp2
          go_ret
          exact ⟨by rw [HV.out]; rfl, B3.out⟩
        | true =>
          have HB := box hb
          obtain ⟨n, hn⟩ : ∃ n, Lib.countByte r.data.toList 45 = n := ⟨_, rfl⟩
          have HN := box hn
          rw [hn] at hM hcb
          have hnz : n ≤ 65000 := by omega
          have HV : Box (matchT r.data.toList t.data.toList = 1 + (n : Int)) := box (by rw [hM, hb]; rfl)
          have hwr : IntKind.i64.wrap (1 + (n : Int)) = 1 + (n : Int) := IntWalk.i64_in _ (by omega)
          clear h1 h2 h3 hM hcb hzr hb hn
          go_enter Try.func14, Try.ntmps14
          go_wp2_with fail
          refine (mRangeM_is hr H1).mono ?_; rintro e w1 ⟨rfl, hb1⟩
          have B1 := box hb1
          clear hb1
          go_wp2_with fail
          refine (mTagM_is ht H2).mono ?_; rintro e w2 ⟨rfl, hb2⟩
          have B2 := box (B1.out.trans (hb2.mono B1.out.size))
          clear hb2
          go_wp2_with fail
          refine (mBeg_is ht hr HB).mono ?_; rintro e w3 ⟨rfl, hb3⟩
          have B3 := box (B2.out.trans (hb3.mono B2.out.size))
          clear hb3
          go_wp2_with fail
          refine (mCount_any r _ hr).mono ?_; rintro e w4 ⟨rfl, rfl⟩
          rw [HN.out]
          go_wp2
          go_ret
          exact ⟨by rw [HV.out]; rfl, B3.out⟩
theorem mMatchM_is {r t : ByteArray} {i : Int} {w : World} (hr : r.size ≤ 65000) (ht : t.size ≤ 65000) (h : Box (matchT r.data.toList t.data.toList = i)) :
    Calls Try.prog 14 #[.string r, .string t] w fun e w' => e = .returned (.int .i64 i) ∧ Below w.heap.size w w' :=
  (mMatchT_any r t w hr ht).mono fun e w' ⟨h1, h2⟩ => ⟨by rw [h1, h.out], h2⟩
end
end Go.Proofs.Ytcjngcafaenhbaa.Asc
