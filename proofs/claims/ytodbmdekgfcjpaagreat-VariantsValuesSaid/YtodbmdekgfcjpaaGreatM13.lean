/- Merged texts: LanMT CodMine VarRule VarVal. -/
import Derived.Test.YtodbmdekgfcjpaaGreatM03
import Derived.Test.YtodbmdekgfcjpaaGreatM08
import Derived.Test.YtodbmdekgfcjpaaGreatM09
import Derived.Test.YtodbmdekgfcjpaaGreatM10
import Derived.Test.YtodbmdekgfcjpaaGreatM11
import Derived.Test.YtodbmdekgfcjpaaGreatM12
import Derived.Handy
set_option linter.unusedVariables false
set_option linter.unusedSimpArgs false
set_option maxRecDepth 100000
namespace Go.Proofs.YtodbmdekgfcjpaaGreat.Asc
section
open Go.RowKit
theorem mLetter_any (b : Int) (w : World) (h0 : 0 ≤ b) (h1 : b ≤ 255) :
    Calls Tryz.prog 150 #[.int .u8 b] w fun e w' => e = .returned (.bool (lettI b)) ∧ w = w' := by
  go_enter Tryz.func150, Tryz.ntmps150
  go_wp2
  all_goals (go_ret; exact ⟨ret_bool (by rw [Bool.eq_iff_iff]; simp [lettI]; omega), rfl⟩)
theorem mLetterC (c : UInt8) (w : World) :
    Calls Tryz.prog 150 #[.int .u8 (c.toNat : Int)] w fun e w' => e = .returned (.bool (chOk true c)) ∧ w = w' :=
  (mLetter_any _ w (c_bd c).1 (c_bd c).2).mono fun e w' ⟨h1, h2⟩ => ⟨by rw [h1]; unfold chOk; rw [Bool.not_true, Bool.false_and, Bool.or_false], h2⟩
theorem mLetter_is {c : UInt8} {q : Bool} {w : World} (h : Box (lettI (c.toNat : Int) = q)) :
    Calls Tryz.prog 150 #[.int .u8 (c.toNat : Int)] w fun e w' => e = .returned (.bool q) ∧ w = w' :=
  (mLetter_any _ w (c_bd c).1 (c_bd c).2).mono fun e w' ⟨h1, h2⟩ => ⟨by rw [h1, h.out], h2⟩
theorem mLetDigC (c : UInt8) (w : World) :
    Calls Tryz.prog 151 #[.int .u8 (c.toNat : Int)] w fun e w' => e = .returned (.bool (chOk false c)) ∧ w = w' := by
  have hb := c_bd c
  have HD : Box (∀ b : Int, digitI b = decide (48 ≤ b ∧ b ≤ 57)) := box (fun _ => rfl)
  cases hl : lettI (c.toNat : Int) with
  | true =>
    have HL := box hl
    have HV : Box (chOk false c = true) := box (by unfold chOk; rw [hl]; rfl)
    clear hl
    go_enter Tryz.func151, Tryz.ntmps151
    go_wp2_with fail
    refine (mLetter_is HL).mono ?_; rintro e w1 ⟨rfl, rfl⟩
    go_wp2
    go_ret
    exact ⟨ret_bool HV.out.symm, rfl⟩
  | false =>
    have HL := box hl
    have HV : Box (chOk false c = digitI (c.toNat : Int)) := box (by unfold chOk; rw [hl]; rfl)
    clear hl
    go_enter Tryz.func151, Tryz.ntmps151
    go_wp2_with fail
    refine (mLetter_is HL).mono ?_; rintro e w1 ⟨rfl, rfl⟩
    go_wp2
    all_goals (go_ret; exact ⟨ret_bool (by rw [HV.out, HD.out, Bool.eq_iff_iff]; simp; omega), rfl⟩)
theorem mIsSub_true (s : ByteArray) (w : World) (hs : s.size ≤ 65000) :
    Calls Tryz.prog 149 #[.string s, .func (.func 150) #[] #[]] w fun e w' => e = .returned (.bool (subOk true s.data.toList)) ∧ w = w' := by
  have hz : s.data.toList.length = s.size := by simp
  have HE : Box (s.toList = s.data.toList) := box (toList_data s)
  by_cases h0 : s.size = 0
  · have hse : (s.toList.isEmpty) = true := by rw [HE.out]; cases hl : s.data.toList with
      | nil => rfl
      | cons a b => rw [hl] at hz; simp at hz; omega
    have hse2 : s.toList = [] := by rw [List.isEmpty_iff] at hse; exact hse
    have HV : Box (subOk true s.data.toList = false) := box (sub_size (.inl (by omega)))
    clear hz
    go_enter Tryz.func149, Tryz.ntmps149
    go_wp2
    go_ret
    exact ⟨ret_bool HV.out.symm, rfl⟩
  · have hse : (s.toList.isEmpty) = false := by rw [HE.out]; cases hl : s.data.toList with
      | nil => rw [hl] at hz; simp at hz; omega
      | cons a b => rfl
    have hse2 : ¬ s.toList = [] := by rw [List.isEmpty_eq_false_iff] at hse; exact hse
    by_cases h8 : 8 < s.size
    · have HV : Box (subOk true s.data.toList = false) := box (sub_size (.inr (by omega)))
      have h8i : (8 : Int) < (s.size : Int) := by omega
      clear hz
      go_enter Tryz.func149, Tryz.ntmps149
      go_wp2
      go_ret
      exact ⟨ret_bool HV.out.symm, rfl⟩
    · have HV : Box (subOk true s.data.toList = s.data.toList.all (chOk true)) := box (sub_chars (by omega) (by omega))
      have h8i : ¬ (8 : Int) < (s.size : Int) := by omega
      clear hz
      go_enter Tryz.func149, Tryz.ntmps149
      go_wp2
      go_loop [5, 15] (fun _ m => TagI s true m) (fun _ m => s.size - (intOf m).toNat)
      case atStart => exact ⟨0, rfl, Nat.zero_le _, rfl⟩
      case round =>
        obtain ⟨m, rfl, hm, hc⟩ := hrel
        have HM := box hc
        clear hc
        by_cases hml : m < s.size
        · have hmi : (m : Int) < (s.size : Int) := by omega
          obtain ⟨c, hcq⟩ : ∃ c, s[m] = c := ⟨_, rfl⟩
          cases hk : chOk true c with
          | true =>
            have HN := box (allC_more HM.out hml (by rw [hcq, hk]))
            have HK := box hk
            clear hk
            go_wp2_with fail
            refine (mLetterC _ _).mono ?_; rintro e w1 ⟨rfl, rfl⟩
            rw [HK.out]
            go_wp2
            go_round
            case rel => exact ⟨m + 1, by go_num, hml, HN.out⟩
            case measure => simp [intOf]; omega
          | false =>
            have HN : Box (subOk true s.data.toList = false) := box (by rw [HV.out]; exact allC_not hml (by rw [hcq, hk]))
            have HK := box hk
            clear hk
            go_wp2_with fail
            refine (mLetterC _ _).mono ?_; rintro e w1 ⟨rfl, rfl⟩
            rw [HK.out]
            go_wp2
            go_ret
            exact ⟨ret_bool HN.out.symm, rfl⟩
        · have hmi : ¬ (m : Int) < (s.size : Int) := by omega
          have HN : Box (subOk true s.data.toList = true) := box (by
            have h := HM.out
            rw [List.take_of_length_le (by simp; omega)] at h
            rw [HV.out, h])
          go_wp2
          go_ret
          exact ⟨ret_bool HN.out.symm, rfl⟩
theorem mIsSub_false (s : ByteArray) (w : World) (hs : s.size ≤ 65000) :
    Calls Tryz.prog 149 #[.string s, .func (.func 151) #[] #[]] w fun e w' => e = .returned (.bool (subOk false s.data.toList)) ∧ w = w' := by
  have hz : s.data.toList.length = s.size := by simp
  have HE : Box (s.toList = s.data.toList) := box (toList_data s)
  by_cases h0 : s.size = 0
  · have hse : (s.toList.isEmpty) = true := by rw [HE.out]; cases hl : s.data.toList with
      | nil => rfl
      | cons a b => rw [hl] at hz; simp at hz; omega
    have hse2 : s.toList = [] := by rw [List.isEmpty_iff] at hse; exact hse
    have HV : Box (subOk false s.data.toList = false) := box (sub_size (.inl (by omega)))
    clear hz
    go_enter Tryz.func149, Tryz.ntmps149
    go_wp2
    go_ret
    exact ⟨ret_bool HV.out.symm, rfl⟩
  · have hse : (s.toList.isEmpty) = false := by rw [HE.out]; cases hl : s.data.toList with
      | nil => rw [hl] at hz; simp at hz; omega
      | cons a b => rfl
    have hse2 : ¬ s.toList = [] := by rw [List.isEmpty_eq_false_iff] at hse; exact hse
    by_cases h8 : 8 < s.size
    · have HV : Box (subOk false s.data.toList = false) := box (sub_size (.inr (by omega)))
      have h8i : (8 : Int) < (s.size : Int) := by omega
      clear hz
      go_enter Tryz.func149, Tryz.ntmps149
      go_wp2
      go_ret
      exact ⟨ret_bool HV.out.symm, rfl⟩
    · have HV : Box (subOk false s.data.toList = s.data.toList.all (chOk false)) := box (sub_chars (by omega) (by omega))
      have h8i : ¬ (8 : Int) < (s.size : Int) := by omega
      clear hz
      go_enter Tryz.func149, Tryz.ntmps149
      go_wp2
      go_loop [5, 15] (fun _ m => TagI s false m) (fun _ m => s.size - (intOf m).toNat)
      case atStart => exact ⟨0, rfl, Nat.zero_le _, rfl⟩
      case round =>
        obtain ⟨m, rfl, hm, hc⟩ := hrel
        have HM := box hc
        clear hc
        by_cases hml : m < s.size
        · have hmi : (m : Int) < (s.size : Int) := by omega
          obtain ⟨c, hcq⟩ : ∃ c, s[m] = c := ⟨_, rfl⟩
          cases hk : chOk false c with
          | true =>
            have HN := box (allC_more HM.out hml (by rw [hcq, hk]))
            have HK := box hk
            clear hk
            go_wp2_with fail
            refine (mLetDigC _ _).mono ?_; rintro e w1 ⟨rfl, rfl⟩
            rw [HK.out]
            go_wp2
            go_round
            case rel => exact ⟨m + 1, by go_num, hml, HN.out⟩
            case measure => simp [intOf]; omega
          | false =>
            have HN : Box (subOk false s.data.toList = false) := box (by rw [HV.out]; exact allC_not hml (by rw [hcq, hk]))
            have HK := box hk
            clear hk
            go_wp2_with fail
            refine (mLetDigC _ _).mono ?_; rintro e w1 ⟨rfl, rfl⟩
            rw [HK.out]
            go_wp2
            go_ret
            exact ⟨ret_bool HN.out.symm, rfl⟩
        · have hmi : ¬ (m : Int) < (s.size : Int) := by omega
          have HN : Box (subOk false s.data.toList = true) := box (by
            have h := HM.out
            rw [List.take_of_length_le (by simp; omega)] at h
            rw [HV.out, h])
          go_wp2
          go_ret
          exact ⟨ret_bool HN.out.symm, rfl⟩
theorem mIsSub1_is {s : ByteArray} {q : Bool} {w : World} (hs : s.size ≤ 65000) (h : Box (subOk true s.data.toList = q)) :
    Calls Tryz.prog 149 #[.string s, .func (.func 150) #[] #[]] w fun e w' => e = .returned (.bool q) ∧ w = w' :=
  (mIsSub_true s w hs).mono fun e w' ⟨h1, h2⟩ => ⟨by rw [h1, h.out], h2⟩
theorem mIsSub0_is {s : ByteArray} {q : Bool} {w : World} (hs : s.size ≤ 65000) (h : Box (subOk false s.data.toList = q)) :
    Calls Tryz.prog 149 #[.string s, .func (.func 151) #[] #[]] w fun e w' => e = .returned (.bool q) ∧ w = w' :=
  (mIsSub_false s w hs).mono fun e w' ⟨h1, h2⟩ => ⟨by rw [h1, h.out], h2⟩
/-- what is left to be judged: the pieces of t, if there is a piece at all -/
def moreT (more : Bool) (t : List UInt8) : Bool := !more || (subL t).all (subOk false)
theorem cut_sub (l : List UInt8) : subL l = cut1 45 l :: (if cutB 45 l = true then subL (cut2 45 l) else []) := by
  by_cases h : cutB 45 l = true
  · rw [if_pos h]
    conv => lhs; rw [cut_join h]
    exact sub_at (cut1_not 45 l)
  · rw [if_neg h]
    have h2 : cutB 45 l = false := by cases e : cutB 45 l with
      | true => exact absurd e h
      | false => rfl
    have hn : (45 : UInt8) ∉ l := by simpa [cutB] using h2
    have e : Lib.indexByte l 45 = -1 := by
      by_cases q : Lib.indexByte l 45 = -1
      · exact q
      · exfalso
        obtain ⟨k, hk⟩ : ∃ k : Nat, Lib.indexByte l 45 = k := ⟨(Lib.indexByte l 45).toNat, by have := Lib.indexByte_ge l 45; omega⟩
        have := (cut_at hk).2.2.2
        rw [h2] at this; cases this
    rw [(cut_no e).1, sub_no hn]
theorem tag_cut (l : List UInt8) : tagL l = (subOk true (cut1 45 l) && moreT (cutB 45 l) (cut2 45 l)) := by
  unfold tagL moreT
  rw [cut_sub l]
  show (subOk true (cut1 45 l) && _) = _
  congr 1
  cases cutB 45 l <;> rfl
theorem more_cut (l : List UInt8) : moreT true l = (subOk false (cut1 45 l) && moreT (cutB 45 l) (cut2 45 l)) := by
  unfold moreT
  rw [Bool.not_true, Bool.false_or, cut_sub l, List.all_cons]
  congr 1
  cases cutB 45 l <;> rfl
theorem cut_small45 (l : List UInt8) : (cut1 45 l).length ≤ l.length ∧ (cut2 45 l).length ≤ l.length ∧ (cutB 45 l = true → (cut2 45 l).length < l.length) := by
  refine ⟨(List.takeWhile_prefix _).length_le, ?_, ?_⟩
  · unfold cut2; have := (List.dropWhile_suffix (l := l) (fun x => x != (45 : UInt8))).length_le; simp; omega
  · intro h; have := congrArg List.length (cut_join h); rw [List.length_append, List.length_cons] at this; omega
/-- the loop over the pieces: rest and more -/
def MtR (m : Bool) (n : Nat) (W : World) (t b : Value) (wr : World) : Prop :=
  ∃ (r : ByteArray) (q : Bool), t = .string r ∧ b = .bool q ∧ r.size ≤ n ∧ moreT q r.data.toList = m ∧ Below W.heap.size W wr
def boolV : Value → Bool
  | .bool b => b
  | _ => false
set_option maxHeartbeats 1000000 in
theorem mTag_any (s : ByteArray) (w : World) (hs : s.size ≤ 65000) :
    Calls Tryz.prog 148 #[.string s] w fun e w' => e = .returned (.bool (tagL s.data.toList)) ∧ Below w.heap.size w w' := by
  obtain ⟨v, hv⟩ : ∃ v, tagL s.data.toList = v := ⟨_, rfl⟩
  have hT := tag_cut s.data.toList
  have hC := cut_small45 s.data.toList
  have hz : s.data.toList.length = s.size := by simp
  have hsm : s.size ≤ maxLen := by unfold maxLen; omega
  rw [hv] at hT
  have HCV : Box (cutV 45 s.data.toList = .tuple #[.string (bs (cut1 45 s.data.toList)), .string (bs (cut2 45 s.data.toList)), .bool (cutB 45 s.data.toList)]) := box rfl
  obtain ⟨x, hx⟩ : ∃ x, cut1 45 s.data.toList = x := ⟨_, rfl⟩
  obtain ⟨y, hy⟩ : ∃ y, cut2 45 s.data.toList = y := ⟨_, rfl⟩
  obtain ⟨b, hb⟩ : ∃ b, cutB 45 s.data.toList = b := ⟨_, rfl⟩
  rw [hx, hy, hb] at HCV
  rw [hx, hy, hb] at hT
  rw [hx, hy] at hC
  have hxz : (bs x).size ≤ 65000 := by rw [bs_size]; omega
  have hyz : (bs y).size ≤ 65000 := by rw [bs_size]; omega
  have HV : Box (∀ q, subOk true x = q → v = (q && moreT b y)) := box (fun q hq => by rw [← hq, hT])
  have HVV := box hv
  rw [hv]
  clear hx hy hb hv hT hC hz
  go_enter Tryz.func148, Tryz.ntmps148
  go_wp2_with fail
  refine (Cut_any s 45 _ hsm).mono ?_; rintro e w1 ⟨rfl, hb1⟩
  rw [HCV.out]
  have B1 := box hb1
  clear hb1
  cases hq : subOk true x with
  | false =>
    have HQ : Box (subOk true (bs x).data.toList = false) := box hq
    have HR : Box (v = false) := box (by rw [HV.out _ hq]; rfl)
    clear hq
    go_wp2_with fail
    refine (mIsSub1_is hxz HQ).mono ?_; rintro e w2 ⟨rfl, rfl⟩
    go_wp2
    go_ret
    exact ⟨ret_bool HR.out.symm, B1.out⟩
  | true =>
    have HQ : Box (subOk true (bs x).data.toList = true) := box hq
    have HR : Box (moreT b (bs y).data.toList = v) := box (by rw [HV.out _ hq]; rfl)
    clear hq
    go_wp2_with fail
    refine (mIsSub1_is hxz HQ).mono ?_; rintro e w2 ⟨rfl, rfl⟩
    go_wp2
    go_loopw [4, 5, 6] (fun t q _ wr => MtR v 65000 w1 t q wr) (fun t q _ _ => (strLen t) + (if boolV q = true then 1 else 0))
    case atStart => exact ⟨bs y, b, rfl, rfl, hyz, HR.out, Below.refl _ _⟩
    case round =>
      obtain ⟨r, q, rfl, rfl, hr, hm, hbel⟩ := hrel
      have BL := box hbel
      have HM := box hm
      clear hm hbel
      cases q with
      | false =>
        have HF : Box (v = true) := box (by rw [← HM.out]; rfl)
        go_wp2
        go_ret
        exact ⟨ret_bool HF.out.symm, B1.out.trans (BL.out.mono B1.out.size)⟩
      | true =>
        have hT := more_cut r.data.toList
        rw [HM.out] at hT
        have hC := cut_small45 r.data.toList
        have hz : r.data.toList.length = r.size := by simp
        have hrm : r.size ≤ maxLen := by unfold maxLen; omega
        have HCV : Box (cutV 45 r.data.toList = .tuple #[.string (bs (cut1 45 r.data.toList)), .string (bs (cut2 45 r.data.toList)), .bool (cutB 45 r.data.toList)]) := box rfl
        obtain ⟨x', hx⟩ : ∃ x', cut1 45 r.data.toList = x' := ⟨_, rfl⟩
        obtain ⟨y', hy⟩ : ∃ y', cut2 45 r.data.toList = y' := ⟨_, rfl⟩
        obtain ⟨b', hb⟩ : ∃ b', cutB 45 r.data.toList = b' := ⟨_, rfl⟩
        rw [hx, hy, hb] at HCV
        rw [hx, hy, hb] at hT
        rw [hx, hy, hb] at hC
        have hxz' : (bs x').size ≤ 65000 := by rw [bs_size]; omega
        have hyz' : (bs y').size ≤ 65000 := by rw [bs_size]; omega
        have HY : Box ((bs y').size + (if b' = true then 1 else 0) < r.size + 1) := box (by
          rw [bs_size]
          cases b' with
          | true => have := hC.2.2 rfl; simp; omega
          | false => simp; omega)
        have HV2 : Box (∀ q, subOk false x' = q → v = (q && moreT b' y')) := box (fun q hq => by rw [← hq, hT])
        clear hx hy hb hT hC hz
        go_wp2_with fail
        refine (Cut_any r 45 _ hrm).mono ?_; rintro e w3 ⟨rfl, hb3⟩
        rw [HCV.out]
        have B3 := box (BL.out.trans (hb3.mono BL.out.size))
        clear hb3
        cases hq : subOk false x' with
        | false =>
          have HQ : Box (subOk false (bs x').data.toList = false) := box hq
          have HR : Box (v = false) := box (by rw [HV2.out _ hq]; rfl)
          clear hq
          go_wp2_with fail
          refine (mIsSub0_is hxz' HQ).mono ?_; rintro e w2 ⟨rfl, rfl⟩
          go_wp2
          go_ret
          exact ⟨ret_bool HR.out.symm, B1.out.trans (B3.out.mono B1.out.size)⟩
        | true =>
          have HQ : Box (subOk false (bs x').data.toList = true) := box hq
          have HR : Box (moreT b' (bs y').data.toList = v) := box (by rw [HV2.out _ hq]; rfl)
          clear hq
          go_wp2_with fail
          refine (mIsSub0_is hxz' HQ).mono ?_; rintro e w2 ⟨rfl, rfl⟩
          go_wp2
          go_roundw
          case rel => exact ⟨bs y', b', rfl, rfl, hyz', HR.out, B3.out⟩
          case measure => exact HY.out
theorem mTagM_is {s : ByteArray} {b : Bool} {w : World} (hs : s.size ≤ 65000) (h : Box (tagL s.data.toList = b)) :
    Calls Tryz.prog 148 #[.string s] w fun e w' => e = .returned (.bool b) ∧ Below w.heap.size w w' :=
  (mTag_any s w hs).mono fun e w' ⟨h1, h2⟩ => ⟨by rw [h1, h.out], h2⟩
end
section
open Go.RowKit
theorem mLow12_is {s x : ByteArray} {w : World} (hs : s.size ≤ 4294967296) (h : Box (bs (lowL s.data.toList) = x)) :
    Calls Tryz.prog 69 #[.string s] w fun e w' => e = .returned (.string x) ∧ Below w.heap.size w w' :=
  (Lower_any s w hs).mono fun e w' ⟨h1, h2⟩ => ⟨by rw [h1, ← h.out]; rfl, h2⟩
theorem mCan_any (k : Int) (s : ByteArray) (w : World) (hk : InI64 k) (hs : s.size ≤ 65536) :
    Calls Tryz.prog 153 #[.int .i64 k, .string s] w fun e w' => e = .returned (.string (bs (canL k s.data.toList))) ∧ Below w.heap.size w w' := by
  have hs4 : s.size ≤ 4294967296 := by omega
  obtain ⟨l, hl⟩ : ∃ l, lowL s.data.toList = l := ⟨_, rfl⟩
  have HX : Box (bs (lowL s.data.toList) = bs l) := box (by rw [hl])
  by_cases h4 : k = 4
  · subst h4
    by_cases h1 : l = xgzL
    · have HV : Box (canL 4 s.data.toList = gzL) := box (by unfold canL; rw [hl, if_pos ⟨rfl, h1⟩])
      subst h1
      clear hl
      go_enter Tryz.func153, Tryz.ntmps153
      go_wp2_with fail
      refine (mLow12_is hs4 HX).mono ?_; rintro e w1 ⟨rfl, hb1⟩; rw [show bs xgzL = ⟨#[120, 45, 103, 122, 105, 112]⟩ from rfl]
      go_wp2
      go_ret
      exact ⟨by rw [HV.out]; rfl, hb1⟩
    · have e1 : ((bs l).toList == [120, 45, 103, 122, 105, 112]) = false := by rw [bs_list]; exact beq_list (decide_eq_false h1)
      by_cases h2 : l = xcoL
      · have HV : Box (canL 4 s.data.toList = coL) := box (by unfold canL; rw [hl, if_neg (fun q => h1 q.2), if_pos ⟨rfl, h2⟩])
        subst h2
        clear hl e1
        go_enter Tryz.func153, Tryz.ntmps153
        go_wp2_with fail
        refine (mLow12_is hs4 HX).mono ?_; rintro e w1 ⟨rfl, hb1⟩; rw [show bs xcoL = ⟨#[120, 45, 99, 111, 109, 112, 114, 101, 115, 115]⟩ from rfl]
        go_wp2
        go_ret
        exact ⟨by rw [HV.out]; rfl, hb1⟩
      · have e2 : ((bs l).toList == [120, 45, 99, 111, 109, 112, 114, 101, 115, 115]) = false := by rw [bs_list]; exact beq_list (decide_eq_false h2)
        have HV : Box (canL 4 s.data.toList = l) := box (by unfold canL; rw [hl, if_neg (fun q => h1 q.2), if_neg (fun q => h2 q.2)])
        clear hl h1 h2
        go_enter Tryz.func153, Tryz.ntmps153
        go_wp2_with fail
        refine (mLow12_is hs4 HX).mono ?_; rintro e w1 ⟨rfl, hb1⟩
        go_wp2
        go_ret
        exact ⟨by rw [HV.out]; rfl, hb1⟩
  · have e4 : (k != 4) = true := by rw [bne_iff_ne]; exact h4
    have HV : Box (canL k s.data.toList = l) := box (by unfold canL; rw [hl, if_neg (fun q => h4 q.1), if_neg (fun q => h4 q.1)])
    clear hl h4
    go_enter Tryz.func153, Tryz.ntmps153
    go_wp2_with fail
    refine (mLow12_is hs4 HX).mono ?_; rintro e w1 ⟨rfl, hb1⟩
    go_wp2
    go_ret
    exact ⟨by rw [HV.out]; rfl, hb1⟩
end
section
open Go.RowKit
/-- what values that are the Same have in common -/
def formF (n x : ByteArray) : ByteArray :=
  if kindN n = 1 ∨ kindN n = 2 then bs (lowL x.data.toList) else if kindN n = 3 ∨ kindN n = 4 then bs (canL (kindN n) x.data.toList) else x
theorem form_same (n x y : ByteArray) : sameV n x y = decide (formF n x = formF n y) := by
  unfold sameV formF
  split
  · unfold foldL
    exact decide_eq_decide.2 ⟨fun h => by rw [h], fun h => bs_inj h⟩
  · split
    · exact decide_eq_decide.2 ⟨fun h => by rw [h], fun h => bs_inj h⟩
    · rfl
theorem form_size {n x : ByteArray} (h : x.size ≤ 65000) : (formF n x).size ≤ 65000 := by
  unfold formF
  have h1 : (lowL x.data.toList).length = x.size := by simp [lowL]
  split
  · rw [bs_size]; omega
  · split
    · rw [bs_size]; have := can_len (kindN n) x.data.toList; have : x.data.toList.length = x.size := by simp
      omega
    · exact h
/-- q and the first j names -/
def inN (L : List F) (j : Nat) : ByteArray → Bool := fun x => decide (x = qName) || (List.range j).any fun i => decide (atP L i = x)
theorem inN_zero (L : List F) (x : ByteArray) : andS noS qName x = inN L 0 x := by unfold andS noS inN; simp
theorem inN_more (L : List F) (j : Nat) (x : ByteArray) : andS (inN L j) (atP L j) x = inN L (j + 1) x := by
  unfold andS inN
  rw [List.range_succ, List.any_append]
  simp only [List.any_cons, List.any_nil, Bool.or_false, Bool.or_assoc]
  congr 2
  exact decide_eq_decide.2 ⟨Eq.symm, Eq.symm⟩
theorem inN_at (L : List F) (j : Nat) : (newP L j j && decide (atP L j ≠ qName)) = !inN L j (atP L j) := by
  unfold newP inN
  rw [Bool.not_or, Bool.and_comm]
  congr 1
  · simp
  · rw [Bool.eq_iff_iff, List.all_eq_true, Bool.not_eq_true', List.any_eq_false]
    constructor
    · intro h i hi; have := h i hi; simp at this; simpa using fun e => this e.symm
    · intro h i hi; have := h i hi; simp at this; simpa using fun e => this e.symm
def DiRel (L : List F) (W : World) (i : Value) (wr : World) : Prop :=
  ∃ j : Nat, i = .int .i64 j ∧ j ≤ L.length ∧ ownP L j = true ∧ Box (SSet wr W.heap.size (j + 1) (inN L j)) ∧ Box (Below W.heap.size W wr)
set_option maxHeartbeats 1000000 in
theorem distinct_any (a : Option Addr) (cap : Nat) (L : List F) (z : Bool) (w : World) (hl : L.length ≤ 65536) (hz : Box (∀ i (hi : i < L.length), L[i].1.size ≤ 65536)) (hF : Box (Fs w a L)) (hv : Box (ownP L L.length = z)) :
    Calls Tryz.prog 142 #[.slice a L.length cap] w fun e w' => e = .returned (.bool z) ∧ Below w.heap.size w w' := by
  obtain ⟨w2, hP, hS2, hg⟩ := (SSet.made w).put (s := ⟨#[113]⟩) (by decide) (by decide)
  have S2 : Box (SSet w2 w.heap.size 1 (inN L 0)) := box (hS2.same (inN_zero L))
  have B2 := box ((below_new w (.map #[] 0)).grown hg (below_new w _).size (fun k hk => by cases hk; exact Nat.le_refl _))
  clear hS2 hg
  have hmm := makeMap15 w
  go_enter Tryz.func142, Tryz.ntmps142
  go_wp2
  go_loopw [10] (fun i wr => DiRel L w i wr) (fun i _ => L.length - (intOf i).toNat)
  case atStart => exact ⟨0, rfl, Nat.zero_le _, rfl, S2, B2⟩
  case round =>
    obtain ⟨j, rfl, hj, ho, hS, hB⟩ := hrel
    have HO := box ho
    clear ho
    by_cases hlt : j < L.length
    · obtain ⟨g, off, rfl, c0, c1⟩ := (hF.out.below hB.out) j hlt
      have hs1 := hz.out j hlt
      have hat := atP_is hlt
      obtain ⟨⟨nm, v⟩, hnm⟩ : ∃ p, L[j] = p := ⟨_, rfl⟩
      rw [hnm] at c0 c1 hs1 hat
      simp only at c0 c1 hs1 hat
      have hno : (newP L j j && decide (atP L j ≠ qName)) = !inN L j nm := by rw [inN_at, hat]
      have hsm : nm.size ≤ maxLen := by unfold maxLen; omega
      have HSM := box hsm
      clear hsm
      have hjm : j + 1 < maxLen := by unfold maxLen; omega
      have HJM := box hjm
      clear hjm
      have hw1 := hS.out.lt
      have BN := box (below_new wr (.cells #[.string nm, .string v] 47))
      have S3 := box (hS.out.below BN.out hw1)
      have B3 := box (hB.out.trans (BN.out.mono (Nat.le_of_lt hw1)))
      obtain ⟨q, hq⟩ : ∃ q, inN L j nm = q := ⟨_, rfl⟩
      rw [hq] at hno
      have HQ := box hq
      have HN := box hno
      clear hq hno
      go_wp2_with fail
      refine (add_any w.heap.size (j + 1) (inN L j) nm q _ HSM.out HJM.out S3 HQ).mono ?_; rintro e w4 ⟨rfl, hS4, hb4⟩
      have S4 : Box (SSet w4 w.heap.size (j + 1 + 1) (inN L (j + 1))) := box (hS4.same (fun x => by rw [← hat]; exact inN_more L j x))
      have B4 := box (B3.out.trans hb4)
      clear hS4 hb4 c0 c1 hat hnm
      cases q with
      | true =>
        have HZ : Box (z = false) := box (by
          rw [← hv.out]
          exact range_no (f := fun i => newP L i i && decide (atP L i ≠ qName)) hlt HN.out)
        go_wp2
        go_ret
        exact ⟨by rw [HZ.out]; rfl, B4.out⟩
      | false =>
        have HO2 : Box (ownP L (j + 1) = true) := box (by rw [ownP_more, HO.out, HN.out]; rfl)
        go_wp2
        go_roundw
        case rel => exact ⟨j + 1, by go_num, by omega, HO2.out, S4, B4⟩
        case measure => simp [intOf]; omega
    · obtain rfl : j = L.length := by omega
      have HZ : Box (z = true) := box (by rw [← hv.out]; exact HO.out)
      go_wp2
      go_ret
      exact ⟨by rw [HZ.out]; rfl, hB.out⟩
theorem mMedia15_is {x a b : ByteArray} {L : List F} {q : Bool} {w : World} (hx : x.size ≤ 65000) (h : Box (ofM (mediaL x.data.toList) = (a, b, L) ∧ (mediaL x.data.toList).isSome = q)) :
    Calls Tryz.prog 141 #[.string x] w fun e w' => ∃ p c, e = .returned (.tuple #[.agg #[.string a, .string b, .slice p L.length c], .bool q]) ∧ Fs w' p L ∧ Below w.heap.size w w' := by
  refine (mMedia_any x w hx).mono ?_
  rintro e w' ⟨v, rfl, hO, hb⟩
  obtain ⟨h1, h2⟩ := h.out
  rw [h1] at hO ⊢
  obtain ⟨p, c, rfl, hF, _⟩ := hO.fs
  exact ⟨p, c, by rw [h2], hF, hb⟩
theorem mCan15_is {k : Int} {s x : ByteArray} {w : World} (hk : InI64 k) (hs : s.size ≤ 65000) (h : Box (bs (canL k s.data.toList) = x)) :
    Calls Tryz.prog 153 #[.int .i64 k, .string s] w fun e w' => e = .returned (.string x) ∧ Below w.heap.size w w' :=
  (mCan_any k s w hk (by omega)).mono fun e w' ⟨h1, h2⟩ => ⟨by rw [h1, h.out], h2⟩
theorem aText15_is {s : ByteArray} {b : Bool} {w : World} (hs : s.size ≤ maxLen) (h : Box (textL s.data.toList = b)) :
    Calls Tryz.prog 118 #[.string s] w fun e w' => e = .returned (.bool b) ∧ w = w' :=
  (Text_any s w hs).mono fun e w' ⟨h1, h2⟩ => ⟨by rw [h1, h.out], h2⟩
theorem mKind15_is {n : ByteArray} {k : Int} {w : World} (hn : n.size ≤ 65000) (h : Box (kindN n = k)) :
    Calls Tryz.prog 53 #[.string n] w fun e w' => e = .returned (.int .i64 k) ∧ Below w.heap.size w w' :=
  (mKind_any n w (by omega)).mono fun e w' ⟨h1, h2⟩ => ⟨by rw [h1, h.out], h2⟩
/-- a method form: what it returns for the axis n -/
def FormIs (n : ByteArray) (fn : Nat) (r : Value) : Prop := ∀ (x : ByteArray) (w : World), x.size ≤ 65000 →
  Calls Tryz.prog fn #[r, .string x] w fun e w' => e = .returned (.tuple #[.string (formF n x), .bool (valueV n x)]) ∧ Below w.heap.size w w'
set_option maxHeartbeats 1000000 in
theorem form1_any (n : ByteArray) (hk : kindN n = 1) : FormIs n 140 (.agg #[]) := by
  intro x w hx
  obtain ⟨⟨ta, tb, L⟩, hM⟩ : ∃ m, ofM (mediaL x.data.toList) = m := ⟨_, rfl⟩
  obtain ⟨q, hq⟩ : ∃ q, (mediaL x.data.toList).isSome = q := ⟨_, rfl⟩
  have HM := box (And.intro hM hq)
  obtain ⟨z, hz⟩ : ∃ z, ownP L L.length = z := ⟨_, rfl⟩
  have HV : Box (valueV n x = (q && z)) := box (by unfold valueV; rw [if_pos hk, hM, hq]; exact congrArg _ hz)
  have HF : Box (bs (lowL x.data.toList) = formF n x) := box (by unfold formF; rw [if_pos (.inl hk)])
  obtain ⟨hL6, hsz, _⟩ := media_len hM
  have HSZ : Box (∀ i (hi : i < L.length), L[i].1.size ≤ 65536) := box (fun i hi => by have := (hsz i hi).1; omega)
  have hL7 : L.length ≤ 65536 := by omega
  have HZ := box hz
  have hx4 : x.size ≤ 4294967296 := by omega
  clear hM hq hL6 hsz hz hk
  have B0 := box (below_new w (.cells #[] 72))
  rw [HV.out]
  generalize formF n x = f at HF
  clear HV
  go_enter Tryz.func140, Tryz.ntmps140
  go_wp2_with fail
  refine (mMedia15_is hx HM).mono ?_; rintro e w2 ⟨p, c, rfl, hF, hb2⟩
  have B2 := box (B0.out.trans (hb2.mono B0.out.size))
  have F2 := box hF
  have hs2 := B2.out.size
  clear hb2 hF
  have BN := box (below_new w2 (.cells #[.string ta, .string tb, .slice p L.length c] 44))
  have hC := C3.new (.string ta) (.string tb) (.slice p L.length c) w2 44
  have B3 := box (B2.out.trans (BN.out.mono hs2))
  go_wp2_with fail
  refine (aLower_is hx4 HF).mono ?_; rintro e w3 ⟨rfl, hb3⟩
  have B4 := box (B3.out.trans (hb3.mono B3.out.size))
  have F4 := box (F2.out.below (BN.out.trans (hb3.mono BN.out.size)))
  obtain ⟨⟨r0, r1, r2⟩, _⟩ := hC.next hb3
  clear hC hb3
  cases q with
  | false =>
    go_wp2
    go_ret2
    exact ⟨rfl, B4.out⟩
  | true =>
    go_wp2_with fail
    refine (distinct_any p c L z _ hL7 HSZ F4 HZ).mono ?_; rintro e w5 ⟨rfl, hb5⟩
    have B5 := box (B4.out.trans (hb5.mono B4.out.size))
    clear hb5
    go_wp2
    go_ret2
    exact ⟨rfl, B5.out⟩
theorem form2_any (n : ByteArray) (hk : kindN n = 2) : FormIs n 147 (.agg #[]) := by
  intro x w hx
  obtain ⟨q, hq⟩ : ∃ q, tagL x.data.toList = q := ⟨_, rfl⟩
  have HV : Box (valueV n x = q) := box (by unfold valueV; rw [if_neg (by omega), if_pos hk, hq])
  have HF : Box (bs (lowL x.data.toList) = formF n x) := box (by unfold formF; rw [if_pos (.inr hk)])
  have HQ := box hq
  have hx4 : x.size ≤ 4294967296 := by omega
  clear hq hk
  have B0 := box (below_new w (.cells #[] 73))
  rw [HV.out]
  generalize formF n x = f at HF
  clear HV
  go_enter Tryz.func147, Tryz.ntmps147
  go_wp2_with fail
  refine (aLower_is hx4 HF).mono ?_; rintro e w3 ⟨rfl, hb3⟩
  have B4 := box (B0.out.trans (hb3.mono B0.out.size))
  clear hb3
  go_wp2_with fail
  refine (mTagM_is hx HQ).mono ?_; rintro e w5 ⟨rfl, hb5⟩
  have B5 := box (B4.out.trans (hb5.mono B4.out.size))
  clear hb5
  go_wp2
  go_ret2
  exact ⟨rfl, B5.out⟩
theorem form3_any (n : ByteArray) (k : Int) (h34 : k = 3 ∨ k = 4) (hk : kindN n = k) : FormIs n 152 (.agg #[.int .i64 k]) := by
  intro x w hx
  obtain ⟨q, hq⟩ : ∃ q, tokL x.data.toList = q := ⟨_, rfl⟩
  obtain ⟨z, hz⟩ : ∃ z, (!(x.toList == [42])) = z := ⟨_, rfl⟩
  have HV : Box (valueV n x = (q && z)) := box (by
    unfold valueV; rw [if_neg (by omega), if_neg (by omega), if_pos (by omega), hq, ← hz, show ([42] : List UInt8) = star.toList from by rw [toList_data]; rfl, ne_toList])
  have HF : Box (bs (canL k x.data.toList) = formF n x) := box (by unfold formF; rw [if_neg (by omega), if_pos (by omega), hk])
  have HQ := box hq
  have hk64 : InI64 k := by constructor <;> omega
  have HX : Box (x.size ≤ maxLen) := box (by unfold maxLen; omega)
  clear hq hk
  have B0 := box (below_new w (.cells #[.int .i64 k] 75))
  rw [HV.out]
  generalize formF n x = f at HF
  clear HV h34
  go_enter Tryz.func152, Tryz.ntmps152
  go_wp2_with fail
  refine (mCan15_is hk64 hx HF).mono ?_; rintro e w3 ⟨rfl, hb3⟩
  have B4 := box (B0.out.trans (hb3.mono B0.out.size))
  clear hb3
  go_wp2_with fail
  refine (aToken_is HX.out HQ).mono ?_; rintro e w5 ⟨rfl, rfl⟩
  cases q with
  | false =>
    go_wp2
    go_ret2
    exact ⟨rfl, B4.out⟩
  | true =>
    go_wp2
    go_ret2
    exact ⟨rfl, B4.out⟩
theorem from1_any (m k : Int) (w : World) : Calls Tryz.prog 34 #[.int .i64 m, .int .i64 k] w fun e w' => e = .returned (.bool (decide (1 ≤ k) && decide (k ≤ m))) ∧ w = w' := by
  by_cases h : 1 ≤ k
  · rw [decide_eq_true h]
    go_enter Tryz.func34, Tryz.ntmps34
    go_wp2
    go_ret
    exact ⟨rfl, rfl⟩
  · rw [decide_eq_false h]
    go_enter Tryz.func34, Tryz.ntmps34
    go_wp2
    go_ret
    exact ⟨rfl, rfl⟩
theorem from1_is {m k : Int} {q : Bool} {w : World} (h : Box ((decide (1 ≤ k) && decide (k ≤ m)) = q)) : Calls Tryz.prog 34 #[.int .i64 m, .int .i64 k] w fun e w' => e = .returned (.bool q) ∧ w = w' :=
  (from1_any m k w).mono fun e w' ⟨h1, h2⟩ => ⟨by rw [h1, h.out], h2⟩
set_option maxHeartbeats 1000000 in
theorem form0_any (n : ByteArray) (hk : kindN n = 0) : FormIs n 154 (.agg #[]) := by
  intro x w hx
  obtain ⟨p, hp⟩ : ∃ p, (decide (1 ≤ (x.size : Int)) && decide ((x.size : Int) ≤ 100)) = p := ⟨_, rfl⟩
  obtain ⟨q, hq⟩ : ∃ q, textL x.data.toList = q := ⟨_, rfl⟩
  obtain ⟨t, ht⟩ : ∃ t, bs (trimL x.data.toList) = t := ⟨_, rfl⟩
  obtain ⟨z, hz⟩ : ∃ z, (t.toList == x.toList) = z := ⟨_, rfl⟩
  have HV : Box (valueV n x = (p && q && z)) := box (by
    unfold valueV
    rw [if_neg (by omega), if_neg (by omega), if_neg (by omega), hq, ← hp, ← hz, ← ht, toList_bs]
    congr 1
    · congr 1
      congr 1
      · exact decide_eq_decide.2 (by omega)
      · exact decide_eq_decide.2 (by omega)
    · rw [toList_data]
      by_cases e : trimL x.data.toList = x.data.toList
      · rw [decide_eq_true e, beq_iff_eq.2 e]
      · rw [decide_eq_false e, beq_eq_false_iff_ne.2 e])
  have HF : Box (formF n x = x) := box (by unfold formF; rw [if_neg (by omega), if_neg (by omega)])
  have HP := box hp
  have HQ := box hq
  have HT := box ht
  have HX : Box (x.size ≤ maxLen) := box (by unfold maxLen; omega)
  clear hp hq ht hk
  have B0 := box (below_new w (.cells #[] 76))
  rw [HV.out, HF.out]
  clear HV HF
  go_enter Tryz.func154, Tryz.ntmps154
  go_wp2_with fail
  refine (from1_is HP).mono ?_; rintro e w3 ⟨rfl, rfl⟩
  cases p with
  | false =>
    go_wp2
    go_ret2
    exact ⟨rfl, B0.out⟩
  | true =>
    go_wp2_with fail
    refine (aText15_is HX.out HQ).mono ?_; rintro e w5 ⟨rfl, rfl⟩
    cases q with
    | false =>
      go_wp2
      go_ret2
      exact ⟨rfl, B0.out⟩
    | true =>
      go_wp2_with fail
      refine (aTrim_is HX.out HT).mono ?_; rintro e w6 ⟨rfl, rfl⟩
      go_wp2
      go_ret2
      exact ⟨rfl, B0.out⟩
/-- an interface value whose method form is the axis n's -/
def RuleIs (n : ByteArray) (v : Value) : Prop := ∃ (T : TypeId) (r : Value) (fn : Nat), v = .iface T r ∧ FormIs n fn r ∧
  (∀ k w, (method (k + 2) T r "variantproxy/variants.form").run Tryz.prog w = .ok (fn, r) w) ∧ (∀ a w, (callFunc fn a).run Tryz.prog w = .ok (.enter fn a) w)
theorem ruleOf_any (n : ByteArray) (w : World) (hn : n.size ≤ 65000) :
    Calls Tryz.prog 23 #[.string n] w fun e w' => ∃ v, e = .returned v ∧ RuleIs n v ∧ Below w.heap.size w w' := by
  rcases kind_five n with hk | hk | hk | hk | hk
  · have R : Box (RuleIs n (.iface 72 (.agg #[]))) := box ⟨_, _, _, rfl, form1_any n hk, fun k w => by rfl, fun a w => by rfl⟩
    have HK := box hk
    clear hk
    go_enter Tryz.func23, Tryz.ntmps23
    go_wp2_with fail
    refine (mKind15_is hn HK).mono ?_; rintro e w1 ⟨rfl, hb1⟩
    have B1 := box hb1
    clear hb1
    go_wp2
    go_ret
    exact ⟨_, rfl, R.out, B1.out⟩
  · have R : Box (RuleIs n (.iface 73 (.agg #[]))) := box ⟨_, _, _, rfl, form2_any n hk, fun k w => by rfl, fun a w => by rfl⟩
    have HK := box hk
    clear hk
    go_enter Tryz.func23, Tryz.ntmps23
    go_wp2_with fail
    refine (mKind15_is hn HK).mono ?_; rintro e w1 ⟨rfl, hb1⟩
    have B1 := box hb1
    clear hb1
    go_wp2
    go_ret
    exact ⟨_, rfl, R.out, B1.out⟩
  · have R : Box (RuleIs n (.iface 75 (.agg #[.int .i64 3]))) := box ⟨_, _, _, rfl, form3_any n 3 (.inl rfl) hk, fun k w => by rfl, fun a w => by rfl⟩
    have HK := box hk
    clear hk
    go_enter Tryz.func23, Tryz.ntmps23
    go_wp2_with fail
    refine (mKind15_is hn HK).mono ?_; rintro e w1 ⟨rfl, hb1⟩
    have B1 := box hb1
    clear hb1
    go_wp2
    go_ret
    exact ⟨_, rfl, R.out, B1.out⟩
  · have R : Box (RuleIs n (.iface 75 (.agg #[.int .i64 4]))) := box ⟨_, _, _, rfl, form3_any n 4 (.inr rfl) hk, fun k w => by rfl, fun a w => by rfl⟩
    have HK := box hk
    clear hk
    go_enter Tryz.func23, Tryz.ntmps23
    go_wp2_with fail
    refine (mKind15_is hn HK).mono ?_; rintro e w1 ⟨rfl, hb1⟩
    have B1 := box hb1
    clear hb1
    go_wp2
    go_ret
    exact ⟨_, rfl, R.out, B1.out⟩
  · have R : Box (RuleIs n (.iface 76 (.agg #[]))) := box ⟨_, _, _, rfl, form0_any n hk, fun k w => by rfl, fun a w => by rfl⟩
    have HK := box hk
    clear hk
    go_enter Tryz.func23, Tryz.ntmps23
    go_wp2_with fail
    refine (mKind15_is hn HK).mono ?_; rintro e w1 ⟨rfl, hb1⟩
    have B1 := box hb1
    clear hb1
    go_wp2
    go_ret
    exact ⟨_, rfl, R.out, B1.out⟩
end
section
open Go.RowKit
/-- a rule's method, one string -/
theorem form_is {n x f : ByteArray} {q : Bool} {fn : Nat} {r : Value} {w : World} (h : FormIs n fn r) (hx : x.size ≤ 65000) (hq : Box (formF n x = f ∧ valueV n x = q)) :
    Calls Tryz.prog fn #[r, .string x] w fun e w' => e = .returned (.tuple #[.string f, .bool q]) ∧ Below w.heap.size w w' :=
  (h x w hx).mono fun e w' ⟨h1, h2⟩ => ⟨by rw [h1, hq.out.1, hq.out.2], h2⟩
theorem mValue_any (n x : ByteArray) (w : World) (hn : n.size ≤ 65000) (hx : x.size ≤ 65000) :
    Calls Tryz.prog 8 #[.string n, .string x] w fun e w' => e = .returned (.bool (valueV n x)) ∧ Below w.heap.size w w' := by
  obtain ⟨f, hf⟩ : ∃ f, formF n x = f := ⟨_, rfl⟩
  obtain ⟨q, hq⟩ : ∃ q, valueV n x = q := ⟨_, rfl⟩
  have HQ := box (And.intro hf hq)
  rw [hq]
  clear hf hq
  go_enter Tryz.func8, Tryz.ntmps8
  go_wp2_with fail
  refine (ruleOf_any n _ hn).mono ?_; rintro e w1 ⟨v, rfl, ⟨T, r, fn, rfl, hF, hM, hC⟩, hb1⟩
  have B1 := box hb1
  have HF := box hF
  clear hb1 hF
  go_wp2_with fail
  refine (form_is HF.out hx HQ).mono ?_; rintro e w2 ⟨rfl, hb2⟩
  have B2 := box (B1.out.trans (hb2.mono B1.out.size))
  clear hb2
  go_wp2
  go_ret
  exact ⟨rfl, B2.out⟩
theorem mSame_any (n x y : ByteArray) (w : World) (hn : n.size ≤ 65000) (hx : x.size ≤ 65000) (hy : y.size ≤ 65000) :
    Calls Tryz.prog 10 #[.string n, .string x, .string y] w fun e w' => e = .returned (.bool (sameV n x y)) ∧ Below w.heap.size w w' := by
  obtain ⟨f, hf⟩ : ∃ f, formF n x = f := ⟨_, rfl⟩
  obtain ⟨q, hq⟩ : ∃ q, valueV n x = q := ⟨_, rfl⟩
  have HQ := box (And.intro hf hq)
  obtain ⟨g, hg⟩ : ∃ f, formF n y = f := ⟨_, rfl⟩
  obtain ⟨p, hp⟩ : ∃ q, valueV n y = q := ⟨_, rfl⟩
  have HP := box (And.intro hg hp)
  have HS : Box (sameV n x y = (f.toList == g.toList)) := box (by
    rw [form_same, hf, hg]
    by_cases e : f = g
    · rw [e]; simp
    · rw [decide_eq_false e]; exact (beq_eq_false_iff_ne.2 (fun h => e (by rw [toList_data, toList_data] at h; rw [bs_of f, bs_of g, h]))).symm)
  clear hf hq hg hp
  go_enter Tryz.func10, Tryz.ntmps10
  go_wp2_with fail
  refine (ruleOf_any n _ hn).mono ?_; rintro e w1 ⟨v, rfl, ⟨T, r, fn, rfl, hF, hM, hC⟩, hb1⟩
  have B1 := box hb1
  have HF := box hF
  clear hb1 hF
  go_wp2_with fail
  refine (form_is HF.out hx HQ).mono ?_; rintro e w2 ⟨rfl, hb2⟩
  have B2 := box (B1.out.trans (hb2.mono B1.out.size))
  clear hb2
  go_wp2_with fail
  refine (form_is HF.out hy HP).mono ?_; rintro e w3 ⟨rfl, hb3⟩
  have B3 := box (B2.out.trans (hb3.mono B2.out.size))
  clear hb3
  go_wp2
  go_ret
  exact ⟨by rw [HS.out]; rfl, B3.out⟩
end
end Go.Proofs.YtodbmdekgfcjpaaGreat.Asc
