/- Merged texts: LanMM CodMine AccMat RnkQua LisOpen RnkMine LisKeep. -/
import Derived.Test.YtgmfmlcpogbolaaM04
import Derived.Test.YtgmfmlcpogbolaaM05
import Derived.Test.YtgmfmlcpogbolaaM09
import Derived.Test.YtgmfmlcpogbolaaM10
import Derived.Test.YtgmfmlcpogbolaaM11
import Derived.Test.YtgmfmlcpogbolaaM12
import Derived.Deep.Slices
set_option linter.unusedVariables false
set_option linter.unusedSimpArgs false
set_option maxRecDepth 100000
namespace Go.Proofs.Ytgmfmlcpogbolaa.Asc
section
open Go.RowKit
/-- does t begin with the subtags r? byte by byte -/
def begL : List UInt8 → List UInt8 → Bool
  | [], [] => true
  | [], d :: _ => decide (d = 45)
  | _ :: _, [] => false
  | c :: r, d :: t => decide (lowB c = lowB d) && begL r t
theorem fold_nil (y : List UInt8) : foldL [] y = decide (y = []) := by
  unfold foldL
  cases y with
  | nil => rfl
  | cons d y => rw [lowL_cons]; rfl
theorem fold_cons (c d : UInt8) (x y : List UInt8) : foldL (c :: x) (d :: y) = (decide (lowB c = lowB d) && foldL x y) := by
  unfold foldL
  rw [lowL_cons, lowL_cons, Bool.eq_iff_iff]
  simp
theorem fold_one (c : UInt8) (x : List UInt8) : foldL (c :: x) [] = false := by
  unfold foldL
  rw [lowL_cons]; rfl
theorem pref_beg : ∀ r t : List UInt8, prefS (subL r) (subL t) = begL r t
  | [], [] => rfl
  | [], d :: t => by
    show prefS [[]] (subL (d :: t)) = decide (d = 45)
    by_cases hd : d = 45
    · subst hd; rw [subL_hyp]; rfl
    · obtain ⟨y, ys, e⟩ := subL_cons t
      rw [subL_chr hd e, decide_eq_false hd]
      show (foldL [] (d :: y) && _) = false
      rw [fold_nil]; rfl
  | c :: r, [] => by
    obtain ⟨x, xs, e⟩ := subL_cons r
    show prefS (subL (c :: r)) [[]] = false
    by_cases hc : c = 45
    · subst hc; rw [subL_hyp, e]; rfl
    · rw [subL_chr hc e]
      show (foldL (c :: x) [] && _) = false
      rw [fold_one]; rfl
  | c :: r, d :: t => by
    have ih := pref_beg r t
    obtain ⟨x, xs, e⟩ := subL_cons r
    obtain ⟨y, ys, e2⟩ := subL_cons t
    show _ = (decide (lowB c = lowB d) && begL r t)
    by_cases hc : c = 45
    · subst hc
      rw [subL_hyp]
      by_cases hd : d = 45
      · subst hd
        rw [subL_hyp, ← ih]; rfl
      · have hn : ¬ lowB 45 = lowB d := by
          intro q
          have : lowB (45 : UInt8) = 45 := by decide +kernel
          rw [this] at q
          exact hd ((low_more d).1.1 q.symm)
        rw [subL_chr hd e2, decide_eq_false hn, Bool.false_and]
        show (foldL [] (d :: y) && _) = false
        rw [fold_nil]; rfl
    · rw [subL_chr hc e]
      by_cases hd : d = 45
      · subst hd
        have hn : ¬ lowB c = lowB 45 := by
          intro q
          have : lowB (45 : UInt8) = 45 := by decide +kernel
          rw [this] at q
          exact hc ((low_more c).1.1 q)
        rw [subL_hyp, decide_eq_false hn, Bool.false_and]
        show (foldL (c :: x) [] && _) = false
        rw [fold_one]; rfl
      · rw [subL_chr hd e2]
        show (foldL (c :: x) (d :: y) && prefS xs ys) = _
        rw [fold_cons, Bool.and_assoc]
        rw [e, e2] at ih
        rw [← ih]; rfl
theorem beg_short : ∀ {r t : List UInt8}, t.length < r.length → begL r t = false
  | [], _, h => absurd h (Nat.not_lt_zero _)
  | _ :: _, [], _ => rfl
  | c :: r, d :: t, h => by show (_ && begL r t) = false; rw [beg_short (by simpa using h), Bool.and_false]
theorem beg_at : ∀ {r t : List UInt8}, r.length ≤ t.length → begL r t = (foldL (t.take r.length) r && (decide (t.length = r.length) || decide (t.getD r.length 0 = 45)))
  | [], [], _ => rfl
  | [], d :: t, _ => by simp [begL, fold_nil]
  | _ :: _, [], h => by simp at h
  | c :: r, d :: t, h => by
    have ih := beg_at (r := r) (t := t) (by simpa using h)
    have e1 : decide (lowB d = lowB c) = decide (lowB c = lowB d) := decide_eq_decide.2 eq_comm
    have e2 : decide ((d :: t).length = (c :: r).length) = decide (t.length = r.length) := decide_eq_decide.2 (by rw [List.length_cons, List.length_cons]; omega)
    have e3 : (d :: t).getD (c :: r).length 0 = t.getD r.length 0 := rfl
    have e4 : (d :: t).take (c :: r).length = d :: t.take r.length := rfl
    rw [e2, e3, e4, fold_cons, e1, Bool.and_assoc, ← ih]; rfl
theorem count_sub : ∀ l : List UInt8, (subL l).length = Lib.countByte l 45 + 1
  | [] => rfl
  | c :: r => by
    have ih := count_sub r
    obtain ⟨x, xs, e⟩ := subL_cons r
    unfold Lib.countByte at ih ⊢
    rw [List.count_cons]
    by_cases hc : c = 45
    · subst hc; rw [subL_hyp]; simp; omega
    · rw [subL_chr hc e]
      rw [e] at ih
      rw [if_neg (by simpa using hc)]
      simpa using ih
theorem mCount_any (s : ByteArray) (w : World) (hs : s.size ≤ 65000) :
    Calls Try.prog 48 #[.string s, .string ⟨#[45]⟩] w fun e w' => e = .returned (.int .i64 (Lib.countByte s.data.toList 45 : Nat)) ∧ w = w' := by
  have hone : ((⟨#[45]⟩ : ByteArray).size : Int) = 1 := rfl
  go_enter Try.func48, Try.ntmps48
  go_wp2
  rw [run_callFunc_extern Try.func66 (by kernel_rfl) (by kernel_rfl) (by kernel_rfl) (e := Extern.BytealgCount.count) (by kernel_rfl), Lib.run_countString]
  simp only [Result.andThen]
  rw [Oper.upon_value]
  go_wp2
  go_ret
  exact ⟨rfl, rfl⟩
theorem mFold11_is {a b : ByteArray} {q : Bool} {w : World} (ha : a.size ≤ 65000) (hb : b.size ≤ 65000) (h : Box (foldL a.data.toList b.data.toList = q)) :
    Calls Try.prog 25 #[.string a, .string b] w fun e w' => e = .returned (.bool q) ∧ Below w.heap.size w w' :=
  (Fold_any a b w (by unfold maxLen; omega) (by unfold maxLen; omega)).mono fun e w' ⟨h1, h2⟩ => ⟨by rw [h1, h.out], h2⟩
set_option maxHeartbeats 1000000 in
theorem mBeg_any (t r : ByteArray) (w : World) (ht : t.size ≤ 65000) (hr : r.size ≤ 65000) :
    Calls Try.prog 47 #[.string t, .string r] w fun e w' => e = .returned (.bool (begL r.data.toList t.data.toList)) ∧ Below w.heap.size w w' := by
  have hzr : r.data.toList.length = r.size := by simp
  have hzt : t.data.toList.length = t.size := by simp
  by_cases hlt : t.size < r.size
  · have HV : Box (begL r.data.toList t.data.toList = false) := box (beg_short (by omega))
    have hi : (t.size : Int) < (r.size : Int) := by omega
    clear hzr hzt
    go_enter Try.func47, Try.ntmps47
    go_wp2
    go_ret
    exact ⟨ret_bool HV.out.symm, Below.refl _ _⟩
  · have hV := beg_at (r := r.data.toList) (t := t.data.toList) (by omega)
    have hi : ¬ (t.size : Int) < (r.size : Int) := by omega
    have hi2 : (r.size : Int) ≤ (t.size : Int) := by omega
    have hi3 : (0 : Int) ≤ (r.size : Int) := by omega
    have hez : (t.extract 0 r.size).size ≤ 65000 := by rw [ByteArray.size_extract]; omega
    have HX : Box ((t.extract 0 r.size).data.toList = t.data.toList.take r.data.toList.length) := box (by rw [ext_bs, bs_toList, List.drop_zero, hzr])
    cases hf : foldL (t.data.toList.take r.data.toList.length) r.data.toList with
    | false =>
      have HF : Box (foldL (t.extract 0 r.size).data.toList r.data.toList = false) := box (by rw [HX.out, hf])
      have HV : Box (begL r.data.toList t.data.toList = false) := box (by rw [hV, hf, Bool.false_and])
      clear hzr hzt hV hf
      go_enter Try.func47, Try.ntmps47
      go_wp2_with fail
      refine (mFold11_is hez hr HF).mono ?_; rintro e w1 ⟨rfl, hb1⟩
      go_wp2
      go_ret
      exact ⟨ret_bool HV.out.symm, hb1⟩
    | true =>
      have HF : Box (foldL (t.extract 0 r.size).data.toList r.data.toList = true) := box (by rw [HX.out, hf])
      rw [hf, Bool.true_and] at hV
      by_cases he : t.size = r.size
      · have hei : ((t.size : Int) == (r.size : Int)) = true := by rw [he]; simp
        have HV : Box (begL r.data.toList t.data.toList = true) := box (by rw [hV, hzr, hzt, decide_eq_true he, Bool.true_or])
        clear hzr hzt hV hf he
        go_enter Try.func47, Try.ntmps47
        go_wp2_with fail
        refine (mFold11_is hez hr HF).mono ?_; rintro e w1 ⟨rfl, hb1⟩
        go_wp2
        go_ret
        exact ⟨ret_bool HV.out.symm, hb1⟩
      · have hei : ((t.size : Int) == (r.size : Int)) = false := by rw [beq_eq_false_iff_ne]; omega
        have hlt2 : r.size < t.size := by omega
        have hli : (r.size : Int) < (t.size : Int) := by omega
        have hg : t.data.toList.getD r.data.toList.length 0 = t[r.size] := by rw [hzr, getD_get _ _ (by omega)]; rfl
        obtain ⟨c, hc⟩ : ∃ c, t[r.size] = c := ⟨_, rfl⟩
        have HV : Box (begL r.data.toList t.data.toList = ((c.toNat : Int) == 45)) := box (by
          rw [hV, hzr, hzt, decide_eq_false he, Bool.false_or, ← hzr, hg, hc, Bool.eq_iff_iff]
          simp only [decide_eq_true_eq, beq_iff_eq]
          constructor
          · intro q; rw [q]; rfl
          · intro q; exact UInt8.toNat_inj.mp (by show c.toNat = 45; omega))
        have HCQ := box hc
        clear hzr hzt hV hf he hg
        go_enter Try.func47, Try.ntmps47
        go_wp2_with fail
        refine (mFold11_is hez hr HF).mono ?_; rintro e w1 ⟨rfl, hb1⟩
        go_wp2
        go_ret
        exact ⟨ret_bool HV.out.symm, hb1⟩
theorem mBeg_is {t r : ByteArray} {q : Bool} {w : World} (ht : t.size ≤ 65000) (hr : r.size ≤ 65000) (h : Box (begL r.data.toList t.data.toList = q)) :
    Calls Try.prog 47 #[.string t, .string r] w fun e w' => e = .returned (.bool q) ∧ Below w.heap.size w w' :=
  (mBeg_any t r w ht hr).mono fun e w' ⟨h1, h2⟩ => ⟨by rw [h1, h.out], h2⟩
theorem mRangeM_is {s : ByteArray} {b : Bool} {w : World} (hs : s.size ≤ 65000) (h : Box (rangeT s.data.toList = b)) :
    Calls Try.prog 45 #[.string s] w fun e w' => e = .returned (.bool b) ∧ Below w.heap.size w w' :=
  (mRangeT_any s w hs).mono fun e w' ⟨h1, h2⟩ => ⟨by rw [h1, h.out], h2⟩
theorem match_beg {r t : List UInt8} (h1 : rangeT r = true) (h2 : tagL t = true) (h3 : r ≠ [42]) : matchT r t = if begL r t = true then 1 + (Lib.countByte r 45 : Int) else -1 := by
  unfold matchT
  rw [h1, h2, if_neg (by simp), if_neg h3, pref_beg, count_sub]
  split
  · push_cast; omega
  · rfl
set_option maxHeartbeats 1000000 in
theorem mMatchT_any (r t : ByteArray) (w : World) (hr : r.size ≤ 65000) (ht : t.size ≤ 65000) :
    Calls Try.prog 27 #[.string r, .string t] w fun e w' => e = .returned (.int .i64 (matchT r.data.toList t.data.toList)) ∧ Below w.heap.size w w' := by
  cases h1 : rangeT r.data.toList with
  | false =>
    have HV : Box (matchT r.data.toList t.data.toList = -1) := box (match_no (by rw [h1]; rfl))
    have H1 := box h1
    clear h1
    go_enter Try.func27, Try.ntmps27
    go_wp2_with fail
    refine (mRangeM_is hr H1).mono ?_; rintro e w1 ⟨rfl, hb1⟩
    go_wp2
    go_ret
    exact ⟨by rw [HV.out]; rfl, hb1⟩
  | true =>
    have H1 := box h1
    cases h2 : tagL t.data.toList with
    | false =>
      have HV : Box (matchT r.data.toList t.data.toList = -1) := box (match_no (by rw [h1, h2]; rfl))
      have H2 := box h2
      clear h1 h2
      go_enter Try.func27, Try.ntmps27
      go_wp2_with fail
      refine (mRangeM_is hr H1).mono ?_; rintro e w1 ⟨rfl, hb1⟩
      have B1 := box hb1
      clear hb1
      go_wp2_with fail
      refine (mTagM_is ht H2).mono ?_; rintro e w2 ⟨rfl, hb2⟩
      have B2 := box (B1.out.trans (hb2.mono B1.out.size))
      clear hb2
      go_wp2
      go_ret
      exact ⟨by rw [HV.out]; rfl, B2.out⟩
    | true =>
      have H2 := box h2
      have hst := star_list (s := r)
      by_cases h3 : r.data.toList = [42]
      · have HV : Box (matchT r.data.toList t.data.toList = 0) := box (by rw [h3]; exact match_star h2)
        rw [decide_eq_true h3] at hst
        clear h1 h2 h3
        go_enter Try.func27, Try.ntmps27
        go_wp2_with fail
        refine (mRangeM_is hr H1).mono ?_; rintro e w1 ⟨rfl, hb1⟩
        have B1 := box hb1
        clear hb1
        go_wp2_with fail
        refine (mTagM_is ht H2).mono ?_; rintro e w2 ⟨rfl, hb2⟩
        have B2 := box (B1.out.trans (hb2.mono B1.out.size))
        clear hb2
        go_wp2
        go_ret
        exact ⟨by rw [HV.out]; rfl, B2.out⟩
      · rw [decide_eq_false h3] at hst
        have hM := match_beg h1 h2 h3
        have hcb : Lib.countByte r.data.toList 45 ≤ r.data.toList.length := List.count_le_length
        have hzr : r.data.toList.length = r.size := by simp
        cases hb : begL r.data.toList t.data.toList with
        | false =>
          have HB := box hb
          have HV : Box (matchT r.data.toList t.data.toList = -1) := box (by rw [hM, hb]; rfl)
          clear h1 h2 h3 hM hcb hzr hb
          go_enter Try.func27, Try.ntmps27
          go_wp2_with fail
          refine (mRangeM_is hr H1).mono ?_; rintro e w1 ⟨rfl, hb1⟩
          have B1 := box hb1
          clear hb1
          go_wp2_with fail
          refine (mTagM_is ht H2).mono ?_; rintro e w2 ⟨rfl, hb2⟩
          have B2 := box (B1.out.trans (hb2.mono B1.out.size))
          clear hb2
          go_wp2_with fail
          refine (mBeg_is ht hr HB).mono ?_; rintro e w3 ⟨rfl, hb3⟩
          have B3 := box (B2.out.trans (hb3.mono B2.out.size))
          clear hb3
          go_wp2
          go_ret
          exact ⟨by rw [HV.out]; rfl, B3.out⟩
        | true =>
          have HB := box hb
          obtain ⟨n, hn⟩ : ∃ n, Lib.countByte r.data.toList 45 = n := ⟨_, rfl⟩
          have HN := box hn
          rw [hn] at hM hcb
          have hnz : n ≤ 65000 := by omega
          have HV : Box (matchT r.data.toList t.data.toList = 1 + (n : Int)) := box (by rw [hM, hb]; rfl)
          have hwr : IntKind.i64.wrap (1 + (n : Int)) = 1 + (n : Int) := IntWalk.i64_in _ (by omega)
          clear h1 h2 h3 hM hcb hzr hb hn
          go_enter Try.func27, Try.ntmps27
          go_wp2_with fail
          refine (mRangeM_is hr H1).mono ?_; rintro e w1 ⟨rfl, hb1⟩
          have B1 := box hb1
          clear hb1
          go_wp2_with fail
          refine (mTagM_is ht H2).mono ?_; rintro e w2 ⟨rfl, hb2⟩
          have B2 := box (B1.out.trans (hb2.mono B1.out.size))
          clear hb2
          go_wp2_with fail
          refine (mBeg_is ht hr HB).mono ?_; rintro e w3 ⟨rfl, hb3⟩
          have B3 := box (B2.out.trans (hb3.mono B2.out.size))
          clear hb3
          go_wp2_with fail
          refine (mCount_any r _ hr).mono ?_; rintro e w4 ⟨rfl, rfl⟩
          rw [HN.out]
          go_wp2
          go_ret
          exact ⟨by rw [HV.out]; rfl, B3.out⟩
theorem mMatchM_is {r t : ByteArray} {i : Int} {w : World} (hr : r.size ≤ 65000) (ht : t.size ≤ 65000) (h : Box (matchT r.data.toList t.data.toList = i)) :
    Calls Try.prog 27 #[.string r, .string t] w fun e w' => e = .returned (.int .i64 i) ∧ Below w.heap.size w w' :=
  (mMatchT_any r t w hr ht).mono fun e w' ⟨h1, h2⟩ => ⟨by rw [h1, h.out], h2⟩
end
section
open Go.RowKit
theorem mLow12_is {s x : ByteArray} {w : World} (hs : s.size ≤ 4294967296) (h : Box (bs (lowL s.data.toList) = x)) :
    Calls Try.prog 60 #[.string s] w fun e w' => e = .returned (.string x) ∧ Below w.heap.size w w' :=
  (Lower_any s w hs).mono fun e w' ⟨h1, h2⟩ => ⟨by rw [h1, ← h.out]; rfl, h2⟩
theorem mCan_any (k : Int) (s : ByteArray) (w : World) (hk : InI64 k) (hs : s.size ≤ 65536) :
    Calls Try.prog 69 #[.int .i64 k, .string s] w fun e w' => e = .returned (.string (bs (canL k s.data.toList))) ∧ Below w.heap.size w w' := by
  have hs4 : s.size ≤ 4294967296 := by omega
  obtain ⟨l, hl⟩ : ∃ l, lowL s.data.toList = l := ⟨_, rfl⟩
  have HX : Box (bs (lowL s.data.toList) = bs l) := box (by rw [hl])
  by_cases h4 : k = 4
  · subst h4
    by_cases h1 : l = xgzL
    · have HV : Box (canL 4 s.data.toList = gzL) := box (by unfold canL; rw [hl, if_pos ⟨rfl, h1⟩])
      subst h1
      clear hl
      go_enter Try.func69, Try.ntmps69
      go_wp2_with fail
      refine (mLow12_is hs4 HX).mono ?_; rintro e w1 ⟨rfl, hb1⟩; rw [show bs xgzL = ⟨#[120, 45, 103, 122, 105, 112]⟩ from rfl]
      go_wp2
      go_ret
      exact ⟨by rw [HV.out]; rfl, hb1⟩
    · have e1 : ((bs l).toList == [120, 45, 103, 122, 105, 112]) = false := by rw [bs_list]; exact beq_list (decide_eq_false h1)
      by_cases h2 : l = xcoL
      · have HV : Box (canL 4 s.data.toList = coL) := box (by unfold canL; rw [hl, if_neg (fun q => h1 q.2), if_pos ⟨rfl, h2⟩])
        subst h2
        clear hl e1
        go_enter Try.func69, Try.ntmps69
        go_wp2_with fail
        refine (mLow12_is hs4 HX).mono ?_; rintro e w1 ⟨rfl, hb1⟩; rw [show bs xcoL = ⟨#[120, 45, 99, 111, 109, 112, 114, 101, 115, 115]⟩ from rfl]
        go_wp2
        go_ret
        exact ⟨by rw [HV.out]; rfl, hb1⟩
      · have e2 : ((bs l).toList == [120, 45, 99, 111, 109, 112, 114, 101, 115, 115]) = false := by rw [bs_list]; exact beq_list (decide_eq_false h2)
        have HV : Box (canL 4 s.data.toList = l) := box (by unfold canL; rw [hl, if_neg (fun q => h1 q.2), if_neg (fun q => h2 q.2)])
        clear hl h1 h2
        go_enter Try.func69, Try.ntmps69
        go_wp2_with fail
        refine (mLow12_is hs4 HX).mono ?_; rintro e w1 ⟨rfl, hb1⟩
        go_wp2
        go_ret
        exact ⟨by rw [HV.out]; rfl, hb1⟩
  · have e4 : (k != 4) = true := by rw [bne_iff_ne]; exact h4
    have HV : Box (canL k s.data.toList = l) := box (by unfold canL; rw [hl, if_neg (fun q => h4 q.1), if_neg (fun q => h4 q.1)])
    clear hl h4
    go_enter Try.func69, Try.ntmps69
    go_wp2_with fail
    refine (mLow12_is hs4 HX).mono ?_; rintro e w1 ⟨rfl, hb1⟩
    go_wp2
    go_ret
    exact ⟨by rw [HV.out]; rfl, hb1⟩
theorem mCan0_is {k : Int} {s x : ByteArray} {w : World} (hk : InI64 k) (hs : s.size ≤ 65536) (h : Box (bs (canL k s.data.toList) = x)) :
    Calls Try.prog 69 #[.int .i64 k, .string s] w fun e w' => e = .returned (.string x) ∧ Below w.heap.size w w' :=
  (mCan_any k s w hk hs).mono fun e w' ⟨h1, h2⟩ => ⟨by rw [h1, h.out], h2⟩
theorem mMatchC_any (k : Int) (r v : ByteArray) (w : World) (hk : InI64 k) (hr : r.size ≤ 65536) (hv : v.size ≤ 65536) :
    Calls Try.prog 50 #[.int .i64 k, .string r, .string v] w fun e w' => e = .returned (.int .i64 (matchC k r.data.toList v.data.toList)) ∧ Below w.heap.size w w' := by
  have hst := star12 (s := r)
  by_cases h : r.data.toList = [42]
  · have HV : Box (matchC k r.data.toList v.data.toList = 0) := box (by rw [h]; exact matchC_star _ _)
    rw [decide_eq_true h] at hst
    clear h
    go_enter Try.func50, Try.ntmps50
    go_wp2
    go_ret
    exact ⟨by rw [HV.out]; rfl, Below.refl _ _⟩
  · rw [decide_eq_false h] at hst
    obtain ⟨x, hx⟩ : ∃ x, canL k r.data.toList = x := ⟨_, rfl⟩
    obtain ⟨y, hy⟩ : ∃ y, canL k v.data.toList = y := ⟨_, rfl⟩
    have HX : Box (bs (canL k r.data.toList) = bs x) := box (by rw [hx])
    have HY : Box (bs (canL k v.data.toList) = bs y) := box (by rw [hy])
    have HV : Box (matchC k r.data.toList v.data.toList = if x = y then 1 else -1) := box (by rw [matchC_not h, hx, hy])
    clear hx hy h
    by_cases he : x = y
    · subst he
      rw [if_pos rfl] at HV
      have e1 : ((bs x).toList == (bs x).toList) = true := by simp
      go_enter Try.func50, Try.ntmps50
      go_wp2_with fail
      refine (mCan0_is hk hr HX).mono ?_; rintro e w1 ⟨rfl, hb1⟩
      have B1 := box hb1
      clear hb1
      go_wp2_with fail
      refine (mCan0_is hk hv HY).mono ?_; rintro e w2 ⟨rfl, hb2⟩
      have B2 := box (B1.out.trans (hb2.mono B1.out.size))
      clear hb2
      go_wp2
      go_ret
      exact ⟨by rw [HV.out]; rfl, B2.out⟩
    · rw [if_neg he] at HV
      have e1 : ((bs x).toList == (bs y).toList) = false := by rw [bs_list, bs_list]; exact beq_list (decide_eq_false he)
      clear he
      go_enter Try.func50, Try.ntmps50
      go_wp2_with fail
      refine (mCan0_is hk hr HX).mono ?_; rintro e w1 ⟨rfl, hb1⟩
      have B1 := box hb1
      clear hb1
      go_wp2_with fail
      refine (mCan0_is hk hv HY).mono ?_; rintro e w2 ⟨rfl, hb2⟩
      have B2 := box (B1.out.trans (hb2.mono B1.out.size))
      clear hb2
      go_wp2
      go_ret
      exact ⟨by rw [HV.out]; rfl, B2.out⟩
end
section
open Go.RowKit
theorem mMed13_is {s : ByteArray} {a b : ByteArray} {L : List F} {q : Bool} {w : World} (hs : s.size ≤ 65000) (h : Box (ofM (mediaL s.data.toList) = (a, b, L) ∧ (mediaL s.data.toList).isSome = q)) :
    Calls Try.prog 43 #[.string s] w fun e w' => ∃ p cap, e = .returned (.tuple #[.agg #[.string a, .string b, .slice p L.length cap], .bool q]) ∧ Fs w' p L ∧ Below w.heap.size w w' :=
  (mMedia_any s w hs).mono fun e w' ⟨v, h1, h2, h3⟩ => by
    rw [h.out.1] at h1 h2
    rw [h.out.2] at h1
    obtain ⟨p, cap, rfl, hF, _⟩ := h2.fs
    exact ⟨p, cap, h1, hF, h3⟩
theorem mmatch13_is {a b c d : ByteArray} {p q : Option Addr} {cp cq : Nat} {K L : List F} {i : Int} {w : World} (hk : Box (K.length ≤ 65536)) (hl : Box (L.length ≤ 65536))
    (hzK : Box (∀ i (hi : i < K.length), K[i].1.size ≤ 65536 ∧ K[i].2.size ≤ 65536)) (hzL : Box (∀ i (hi : i < L.length), L[i].1.size ≤ 65536 ∧ L[i].2.size ≤ 65536)) (hK : Fs w p K) (hL : Fs w q L) (h : Box (matchI (a, b, K) (c, d, L) = i)) :
    Calls Try.prog 44 #[.agg #[.string a, .string b, .slice p K.length cp], .agg #[.string c, .string d, .slice q L.length cq]] w fun e w' => e = .returned (.int .i64 i) ∧ Below w.heap.size w w' :=
  (mMatch10_any a b c d p q cp cq K L w hk.out hl.out hzK hzL (box hK) (box hL)).mono fun e w' ⟨h1, h2⟩ => ⟨by rw [h1, h.out], h2⟩
set_option maxHeartbeats 1000000 in
theorem mMatMT_any (r v : ByteArray) (w : World) (hr : r.size ≤ 20000) (hv : v.size ≤ 20000) :
    Calls Try.prog 26 #[.string r, .string v] w fun e w' => e = .returned (.int .i64 (matchP 1 r.data.toList v.data.toList)) ∧ Below w.heap.size w w' := by
  obtain ⟨⟨a, b, K⟩, h1⟩ : ∃ m, ofM (rangeL r.data.toList) = m := ⟨_, rfl⟩
  obtain ⟨ok, h2⟩ : ∃ q, (rangeL r.data.toList).isSome = q := ⟨_, rfl⟩
  obtain ⟨⟨c, d, L⟩, h3⟩ : ∃ m, ofM (mediaL v.data.toList) = m := ⟨_, rfl⟩
  obtain ⟨is, h4⟩ : ∃ q, (mediaL v.data.toList).isSome = q := ⟨_, rfl⟩
  have HV := box (matchP_acc h1 h2 h3 h4)
  obtain ⟨k1, k2, _, _⟩ := range_len h1
  obtain ⟨l1, l2, _, _⟩ := media_len h3
  have lK : Box (K.length ≤ 65536) := box (by omega)
  have lL : Box (L.length ≤ 65536) := box (by omega)
  have zK : Box (∀ i (hi : i < K.length), K[i].1.size ≤ 65536 ∧ K[i].2.size ≤ 65536) := box (fun i hi => by have := k2 i hi; omega)
  have zL : Box (∀ i (hi : i < L.length), L[i].1.size ≤ 65536 ∧ L[i].2.size ≤ 65536) := box (fun i hi => by have := l2 i hi; omega)
  have H1 := box (And.intro h1 h2)
  have H2 := box (And.intro h3 h4)
  have hr6 : r.size ≤ 65000 := by omega
  have hv6 : v.size ≤ 65000 := by omega
  clear h1 h2 h3 h4 k1 k2 l1 l2
  go_enter Try.func26, Try.ntmps26
  go_wp2_with fail
  refine (mRange_is hr6 H1).mono ?_; rintro e w1 ⟨p1, c1, rfl, hO1, hb1⟩
  obtain ⟨p9, c9, hv9, hF1, _⟩ := hO1.fs
  cases hv9
  have hnw := below_new w1 (.cells #[.string a, .string b, .slice p1 K.length c1] 45)
  have C1 := box (C3.new (.string a) (.string b) (.slice p1 K.length c1) w1 45)
  have F1 := box (hF1.below hnw)
  have B1 := box (hb1.trans (hnw.mono hb1.size))
  clear hO1 hF1 hb1 hnw
  go_wp2_with fail
  refine (mMed13_is hv6 H2).mono ?_; rintro e w2 ⟨p2, c2, rfl, hF2, hb2⟩
  have hnw := below_new w2 (.cells #[.string c, .string d, .slice p2 L.length c2] 45)
  have N1 := C1.out.next hb2
  have F2 := box ((F1.out.below hb2).below hnw)
  have G2 := box (hF2.below hnw)
  have B2 := box (B1.out.trans ((hb2.trans (hnw.mono hb2.size)).mono B1.out.size))
  have hne : w1.heap.size ≠ w2.heap.size := Nat.ne_of_lt N1.lt
  obtain ⟨⟨s0, s1, s2⟩, _⟩ := N1.next hnw
  obtain ⟨⟨r0, r1, r2⟩, _⟩ := N1
  clear hF2 hb2 hnw
  cases ok with
  | false =>
    have HR : Box (matchP 1 r.data.toList v.data.toList = -1) := box (by rw [HV.out]; rfl)
    go_wp2
    go_ret
    exact ⟨by rw [HR.out]; rfl, B2.out⟩
  | true =>
    cases is with
    | false =>
      have HR : Box (matchP 1 r.data.toList v.data.toList = -1) := box (by rw [HV.out]; rfl)
      go_wp2
      go_ret
      exact ⟨by rw [HR.out]; rfl, B2.out⟩
    | true =>
      have HR : Box (matchI (a, b, K) (c, d, L) = matchP 1 r.data.toList v.data.toList) := box (by rw [HV.out]; rfl)
      go_wp2_with fail
      refine (mmatch13_is lK lL zK zL F2.out G2.out HR).mono ?_; rintro e w3 ⟨rfl, hb3⟩
      have B3 := box (B2.out.trans (hb3.mono B2.out.size))
      clear hb3 r0 r1 r2 s0 s1 s2
      go_wp2
      go_ret
      exact ⟨rfl, B3.out⟩
theorem mMatchC13_is {k i : Int} {r v : ByteArray} {w : World} (hk : InI64 k) (hr : r.size ≤ 20000) (hv : v.size ≤ 20000) (h : Box (matchC k r.data.toList v.data.toList = i)) :
    Calls Try.prog 50 #[.int .i64 k, .string r, .string v] w fun e w' => e = .returned (.int .i64 i) ∧ Below w.heap.size w w' :=
  (mMatchC_any k r v w hk (by omega) (by omega)).mono fun e w' ⟨h1, h2⟩ => ⟨by rw [h1, h.out], h2⟩
set_option maxHeartbeats 1000000 in
theorem mMatTok_any (k : Int) (r v : ByteArray) (w : World) (hk : k = 3 ∨ k = 4) (hr : r.size ≤ 20000) (hv : v.size ≤ 20000) :
    Calls Try.prog 28 #[.int .i64 k, .string r, .string v] w fun e w' => e = .returned (.int .i64 (matchP k r.data.toList v.data.toList)) ∧ Below w.heap.size w w' := by
  have HV := box (matchP_cod hk r.data.toList v.data.toList)
  have hki : InI64 k := by rcases hk with rfl | rfl <;> exact ⟨by omega, by omega⟩
  have hst := star13 (s := v)
  have hrm : r.size ≤ maxLen := by unfold maxLen; omega
  have hvm : v.size ≤ maxLen := by unfold maxLen; omega
  clear hk
  cases ht : tokL r.data.toList with
  | false =>
    have HT := box ht
    have HR : Box (matchP k r.data.toList v.data.toList = -1) := box (by rw [HV.out, ht]; rfl)
    clear ht hst
    go_enter Try.func28, Try.ntmps28
    go_wp2_with fail
    refine (aToken_is hrm HT).mono ?_; rintro e w1 ⟨rfl, rfl⟩
    go_wp2
    go_ret
    exact ⟨by rw [HR.out]; rfl, Below.refl _ _⟩
  | true =>
    have HT := box ht
    cases hu : tokL v.data.toList with
    | false =>
      have HU := box hu
      have HR : Box (matchP k r.data.toList v.data.toList = -1) := box (by rw [HV.out, ht, hu]; rfl)
      clear ht hu hst
      go_enter Try.func28, Try.ntmps28
      go_wp2_with fail
      refine (aToken_is hrm HT).mono ?_; rintro e w1 ⟨rfl, rfl⟩
      go_wp2_with fail
      refine (aToken_is hvm HU).mono ?_; rintro e w1 ⟨rfl, rfl⟩
      go_wp2
      go_ret
      exact ⟨by rw [HR.out]; rfl, Below.refl _ _⟩
    | true =>
      have HU := box hu
      by_cases hs : v.data.toList = [42]
      · have HR : Box (matchP k r.data.toList v.data.toList = -1) := box (by rw [HV.out, ht, hu, decide_eq_false (by simp [hs])]; rfl)
        rw [decide_eq_true hs] at hst
        clear ht hu hs
        go_enter Try.func28, Try.ntmps28
        go_wp2_with fail
        refine (aToken_is hrm HT).mono ?_; rintro e w1 ⟨rfl, rfl⟩
        go_wp2_with fail
        refine (aToken_is hvm HU).mono ?_; rintro e w1 ⟨rfl, rfl⟩
        go_wp2
        go_ret
        exact ⟨by rw [HR.out]; rfl, Below.refl _ _⟩
      · have HR : Box (matchC k r.data.toList v.data.toList = matchP k r.data.toList v.data.toList) := box (by rw [HV.out, ht, hu, decide_eq_true hs]; rfl)
        rw [decide_eq_false hs] at hst
        clear ht hu hs
        go_enter Try.func28, Try.ntmps28
        go_wp2_with fail
        refine (aToken_is hrm HT).mono ?_; rintro e w1 ⟨rfl, rfl⟩
        go_wp2_with fail
        refine (aToken_is hvm HU).mono ?_; rintro e w1 ⟨rfl, rfl⟩
        go_wp2_with fail
        refine (mMatchC13_is hki hr hv HR).mono ?_; rintro e w2 ⟨rfl, hb2⟩
        go_wp2
        go_ret
        exact ⟨rfl, hb2⟩
theorem mMatMT_is {r v : ByteArray} {i : Int} {w : World} (hr : r.size ≤ 20000) (hv : v.size ≤ 20000) (h : Box (matchP 1 r.data.toList v.data.toList = i)) :
    Calls Try.prog 26 #[.string r, .string v] w fun e w' => e = .returned (.int .i64 i) ∧ Below w.heap.size w w' :=
  (mMatMT_any r v w hr hv).mono fun e w' ⟨h1, h2⟩ => ⟨by rw [h1, h.out], h2⟩
theorem mMatTok_is {k i : Int} {r v : ByteArray} {w : World} (hk : k = 3 ∨ k = 4) (hr : r.size ≤ 20000) (hv : v.size ≤ 20000) (h : Box (matchP k r.data.toList v.data.toList = i)) :
    Calls Try.prog 28 #[.int .i64 k, .string r, .string v] w fun e w' => e = .returned (.int .i64 i) ∧ Below w.heap.size w w' :=
  (mMatTok_any k r v w hk hr hv).mono fun e w' ⟨h1, h2⟩ => ⟨by rw [h1, h.out], h2⟩
theorem mMatch13_any (k : Int) (r v : ByteArray) (w : World) (hk : InI64 k) (hr : r.size ≤ 20000) (hv : v.size ≤ 20000) :
    Calls Try.prog 15 #[.int .i64 k, .string r, .string v] w fun e w' => e = .returned (.int .i64 (matchP k r.data.toList v.data.toList)) ∧ Below w.heap.size w w' := by
  obtain ⟨i, hi⟩ : ∃ i, matchP k r.data.toList v.data.toList = i := ⟨_, rfl⟩
  rw [hi]
  by_cases h1 : k = 1
  · subst h1
    have HI := box hi
    clear hi
    go_enter Try.func15, Try.ntmps15
    go_wp2_with fail
    refine (mMatMT_is hr hv HI).mono ?_; rintro e w1 ⟨rfl, hb1⟩
    go_wp2
    go_ret
    exact ⟨rfl, hb1⟩
  · by_cases h2 : k = 2
    · subst h2
      have HI : Box (matchT r.data.toList v.data.toList = i) := box (by rw [← matchP_lan]; exact hi)
      have hr6 : r.size ≤ 65000 := by omega
      have hv6 : v.size ≤ 65000 := by omega
      clear h1 hi
      go_enter Try.func15, Try.ntmps15
      go_wp2_with fail
      refine (mMatchM_is hr6 hv6 HI).mono ?_; rintro e w1 ⟨rfl, hb1⟩
      go_wp2
      go_ret
      exact ⟨rfl, hb1⟩
    · have HI := box hi
      by_cases h3 : k = 3
      · subst h3
        clear h1 h2 hi
        go_enter Try.func15, Try.ntmps15
        go_wp2_with fail
        refine (mMatTok_is (.inl rfl) hr hv HI).mono ?_; rintro e w1 ⟨rfl, hb1⟩
        go_wp2
        go_ret
        exact ⟨rfl, hb1⟩
      · by_cases h4 : k = 4
        · subst h4
          clear h1 h2 h3 hi
          go_enter Try.func15, Try.ntmps15
          go_wp2_with fail
          refine (mMatTok_is (.inr rfl) hr hv HI).mono ?_; rintro e w1 ⟨rfl, hb1⟩
          go_wp2
          go_ret
          exact ⟨rfl, hb1⟩
        · have HV : Box (i = -1) := box (by rw [← hi]; exact matchP_no h1 h2 h3 h4 r.data.toList v.data.toList)
          have e1 : (k == 1) = false := by rw [beq_eq_false_iff_ne]; exact h1
          have e2 : (k == 2) = false := by rw [beq_eq_false_iff_ne]; exact h2
          have e3 : (k == 3) = false := by rw [beq_eq_false_iff_ne]; exact h3
          have e4 : (k == 4) = false := by rw [beq_eq_false_iff_ne]; exact h4
          clear h1 h2 h3 h4 hi
          go_enter Try.func15, Try.ntmps15
          go_wp2
          go_ret
          exact ⟨by rw [HV.out]; rfl, Below.refl _ _⟩
end
section
open Go.RowKit
theorem mMatch14_is {k i : Int} {r v : ByteArray} {w : World} (hk : InI64 k) (hr : r.size ≤ 20000) (hv : v.size ≤ 20000) (h : Box (matchP k r.data.toList v.data.toList = i)) :
    Calls Try.prog 15 #[.int .i64 k, .string r, .string v] w fun e w' => e = .returned (.int .i64 i) ∧ Below w.heap.size w w' :=
  (mMatch13_any k r v w hk hr hv).mono fun e w' ⟨h1, h2⟩ => ⟨by rw [h1, h.out], h2⟩
theorem mFold14_is {a b : ByteArray} {q : Bool} {w : World} (ha : a.size ≤ 65536) (hb : b.size ≤ 65536) (h : Box (foldL a.data.toList b.data.toList = q)) :
    Calls Try.prog 25 #[.string a, .string b] w fun e w' => e = .returned (.bool q) ∧ Below w.heap.size w w' :=
  (Fold_any a b w (by unfold maxLen; omega) (by unfold maxLen; omega)).mono fun e w' ⟨h1, h2⟩ => ⟨by rw [h1, h.out], h2⟩
theorem mQual0_any (k : Int) (v : ByteArray) (w : World) (hk : InI64 k) (hv : v.size ≤ 20000) :
    Calls Try.prog 14 #[.int .i64 k, .string v] w fun e w' => e = .returned (.int .i64 (qual0 k v.data.toList)) ∧ Below w.heap.size w w' := by
  have hv4 : v.size ≤ 65536 := by omega
  have h8 : (⟨#[105, 100, 101, 110, 116, 105, 116, 121]⟩ : ByteArray).size ≤ 65536 := by decide
  by_cases h4 : k = 4
  · subst h4
    cases hf : foldL v.data.toList idenL with
    | false =>
      have HF : Box (foldL v.data.toList (⟨#[105, 100, 101, 110, 116, 105, 116, 121]⟩ : ByteArray).data.toList = false) := box (by rw [iden_lit]; exact hf)
      have HV := box (qual0_off hf)
      clear hf
      go_enter Try.func14, Try.ntmps14
      go_wp2_with fail
      refine (mFold14_is hv4 h8 HF).mono ?_; rintro e w1 ⟨rfl, hb1⟩
      go_wp2
      go_ret
      exact ⟨by rw [HV.out]; rfl, hb1⟩
    | true =>
      have HF : Box (foldL v.data.toList (⟨#[105, 100, 101, 110, 116, 105, 116, 121]⟩ : ByteArray).data.toList = true) := box (by rw [iden_lit]; exact hf)
      have HV := box (qual0_on hf)
      clear hf
      go_enter Try.func14, Try.ntmps14
      go_wp2_with fail
      refine (mFold14_is hv4 h8 HF).mono ?_; rintro e w1 ⟨rfl, hb1⟩
      go_wp2
      go_ret
      exact ⟨by rw [HV.out]; rfl, hb1⟩
  · have e4 : (k == 4) = false := by rw [beq_eq_false_iff_ne]; exact h4
    have HV := box (qual0_no (v := v.data.toList) h4)
    clear h4
    go_enter Try.func14, Try.ntmps14
    go_wp2
    go_ret
    exact ⟨by rw [HV.out]; rfl, Below.refl _ _⟩
theorem mQual0_is {k i : Int} {v : ByteArray} {w : World} (hk : InI64 k) (hv : v.size ≤ 20000) (h : Box (qual0 k v.data.toList = i)) :
    Calls Try.prog 14 #[.int .i64 k, .string v] w fun e w' => e = .returned (.int .i64 i) ∧ Below w.heap.size w w' :=
  (mQual0_any k v w hk hv).mono fun e w' ⟨h1, h2⟩ => ⟨by rw [h1, h.out], h2⟩
set_option maxHeartbeats 1000000 in
theorem mQuality_any (k : Int) (a : Option Addr) (cap : Nat) (L : List QP) (present : Bool) (v : ByteArray) (w : World) (hk : InI64 k) (hl : L.length ≤ 65536) (hz : Box (∀ i (hi : i < L.length), L[i].1.size ≤ 20000)) (hv : v.size ≤ 20000) (hF : Box (Qs w a L)) :
    Calls Try.prog 8 #[.int .i64 k, .slice a L.length cap, .bool present, .string v] w fun e w' => e = .returned (.int .i64 (qualR k L present v.data.toList)) ∧ Below w.heap.size w w' := by
  cases present with
  | false =>
    go_enter Try.func8, Try.ntmps8
    go_wp2
    go_ret
    exact ⟨rfl, Below.refl _ _⟩
  | true =>
    obtain ⟨z, hz0⟩ : ∃ z, qual0 k v.data.toList = z := ⟨_, rfl⟩
    have HQ0 := box hz0
    have h0 : Box (QlRel k v.data.toList L w (.int .i64 (-1)) (.int .i64 z) (.int .i64 0) w) := box ⟨-1, z, 0, rfl, rfl, rfl, Nat.zero_le _, by rw [hz0]; rfl, Below.refl _ _⟩
    clear hz0
    go_enter Try.func8, Try.ntmps8
    go_wp2_with fail
    refine (mQual0_is hk hv HQ0).mono ?_; rintro e w1 ⟨rfl, hb1⟩
    have h1 := box (h0.out.below hb1)
    clear hb1 h0
    go_wp2
    go_loopw [9, 10, 21] (fun q b i wr => QlRel k v.data.toList L w b q i wr) (fun _ _ i _ => L.length - (intOf i).toNat)
    case atStart => exact h1.out
    case round =>
      obtain ⟨x, y, j, rfl, rfl, rfl, hj, hbest, hbel⟩ := hrel
      have HB := box hbest
      have BL := box hbel
      have F1 := box (hF.out.below hbel)
      clear hbest hbel
      by_cases hlt : j < L.length
      · have hji : (j : Int) < (L.length : Int) := by omega
        obtain ⟨p, hp⟩ : ∃ p, L[j] = p := ⟨_, rfl⟩
        have HP := box hp
        have hpz : p.1.size ≤ 20000 := by have := hz.out j hlt; rw [hp] at this; exact this
        obtain ⟨s, hs⟩ : ∃ s, matchP k p.1.data.toList v.data.toList = s := ⟨_, rfl⟩
        have HS := box hs
        obtain ⟨g, off, rfl, c0, c1⟩ := F1.out j hlt
        rw [hp] at c0 c1
        have A1 : Box ((wr.alloc (.cells #[.string p.1, .int .i64 p.2] 33)).cell? ⟨wr.heap.size, 1, none⟩ = some (.int .i64 p.2)) := box (by rw [World.cell?_alloc_mark]; rfl)
        have BA := box (BL.out.alloc BL.out.size (.cells #[.string p.1, .int .i64 p.2] 33))
        clear hs hp
        by_cases hgt : x < s
        · have HN : Box (bestQ k v.data.toList (L.take (j + 1)) (-1, qual0 k v.data.toList) = (s, p.2)) := box (qual_step1 hlt HP.out HB.out HS.out hgt rfl)
          go_wp2_with fail
          refine (mMatch14_is hk hpz hv HS).mono ?_; rintro e w2 ⟨rfl, hb2⟩
          have B2 := box (BA.out.trans (hb2.mono BA.out.size))
          have c2 := (hb2.cell (cell_lt A1.out)).trans A1.out
          clear hb2 c0 c1
          go_wp2
          go_roundw
          case rel => exact ⟨s, p.2, j + 1, rfl, rfl, by go_num, hlt, HN.out, B2.out⟩
          case measure => simp [intOf]; omega
        · have HN : Box (bestQ k v.data.toList (L.take (j + 1)) (-1, qual0 k v.data.toList) = (x, y)) := box (qual_step2 hlt HP.out HB.out HS.out hgt)
          go_wp2_with fail
          refine (mMatch14_is hk hpz hv HS).mono ?_; rintro e w2 ⟨rfl, hb2⟩
          have B2 := box (BA.out.trans (hb2.mono BA.out.size))
          clear hb2 c0 c1
          go_wp2
          go_roundw
          case rel => exact ⟨x, y, j + 1, rfl, rfl, by go_num, hlt, HN.out, B2.out⟩
          case measure => simp [intOf]; omega
      · have hji : ¬ (j : Int) < (L.length : Int) := by omega
        have HV : Box (qualR k L true v.data.toList = y) := box (by
          have hjl : j = L.length := by omega
          subst hjl
          have := HB.out
          rw [List.take_length] at this
          unfold qualR; rw [if_pos rfl, this])
        go_wp2
        go_ret
        exact ⟨by rw [HV.out]; rfl, BL.out⟩
end
section
open Go.RowKit Go.ChangeShapes Go.WideShapes Go.Deep
theorem open_strings {H : Type} {enc : TypeId × Value → H} {W : World} {base : Nat} {sp : Nat → Bool} {held : Bool} {r : Reach} {b0 : Nat} {v : Value} {d : DataW H} {p : List MemPlace}
    (hval : Value.okWide Try.prog W r b0 27 v) (h : DataW.Trod enc Try.prog W base sp held 27 v d p) :
    ∃ (a : Option Addr) (cap : Nat) (L : List ByteArray), v = .slice a L.length cap ∧ L.length ≤ maxLen ∧ Ss W a L ∧ L.length ≤ cap := by
  obtain ⟨a0, len, cap, rfl⟩ := okWide_slice Try.underlying27 hval
  obtain ⟨fuel, hf⟩ := h
  rcases open_slice1 Try.underlying27 (by kernel_rfl) hf with ⟨hcs, hx⟩ | ⟨a, len', cap', m, n, V, D, Pl, hcs, _, hl, hm, hmm, hx, hi⟩
  · simp [Value.cells] at hcs
    obtain ⟨rfl, rfl, rfl⟩ := hcs
    exact ⟨none, 0, [], rfl, Nat.zero_le _, fun i hi => absurd hi (by simp), Nat.le_refl _⟩
  · simp [Value.cells] at hcs
    obtain ⟨rfl, rfl, rfl⟩ := hcs
    have hlm : len ≤ m := by rw [hmm]; split <;> omega
    refine ⟨some a, cap, (List.range len).map fun i => strOf (V i), by simp, by simp; omega, fun i hi2 => ?_, by simp; omega⟩
    have hil : i < len := by simpa using hi2
    obtain ⟨g, off, spot⟩ := a
    obtain ⟨z0, _⟩ := hi 0 (by omega)
    have hspot : spot = none := by simpa [Addr.add] using World.cell?_spot z0
    subst hspot
    obtain ⟨k0, t0⟩ := hi i (by omega)
    obtain ⟨s0, e0, _, _⟩ := DataW.trod_string Try.underlying9 t0
    rw [add_plain] at k0
    simp at e0
    refine ⟨g, off, rfl, ?_⟩
    rw [k0, e0]; simp [strOf, e0]
end
section
open Go.RowKit
def InsLev (B : Nat) (T : List TL) (p : Int) (x : ByteArray) (w : World) (e : Ending) (w' : World) : Prop :=
  ∃ v' T', e = .returned v' ∧ Lev w' B v' T' ∧ plT T' = insV p x (plT T) ∧ Below B w w'
theorem split14_at {T : List TL} {k : Nat} (h : k ≤ T.length) : plT T = plT (T.take k) ++ plT (T.drop k) := by
  unfold plT; rw [← List.map_append, List.take_append_drop]
theorem pl_found {T : List TL} {k : Nat} {p : Int} {x : ByteArray} {s : Value} (hk : k < T.length) (h1 : ∀ i (hi : i < T.length), i < k → p < T[i].1) (he : T[k].1 = p) : plT (T.set k (T[k].1, s, T[k].2.2 ++ [x])) = insV p x (plT T) := by
  have e1 : T = T.take k ++ T[k] :: T.drop (k + 1) := by rw [← List.drop_eq_getElem_cons hk, List.take_append_drop]
  have hl : (T.take k).length = k := by rw [List.length_take]; omega
  have e2 : T.set k (T[k].1, s, T[k].2.2 ++ [x]) = T.take k ++ (T[k].1, s, T[k].2.2 ++ [x]) :: T.drop (k + 1) := by
    generalize T[k] = u at e1 ⊢
    conv => lhs; rw [e1]
    rw [List.set_append_right _ _ (by omega), hl, Nat.sub_self]; rfl
  have e3 : plT T = plT (T.take k) ++ (T[k].1, T[k].2.2) :: plT (T.drop (k + 1)) := by
    generalize T[k] = u at e1 ⊢
    conv => lhs; rw [e1]
    unfold plT; rw [List.map_append, List.map_cons]
  have hA : ∀ t ∈ plT (T.take k), p < t.1 := by
    intro t ht
    unfold plT at ht
    obtain ⟨u, hu, rfl⟩ := List.mem_map.1 ht
    obtain ⟨j, hj, rfl⟩ := List.getElem_of_mem hu
    have hjk : j < k := by omega
    rw [List.getElem_take]
    exact h1 j (by omega) hjk
  rw [e2, e3, insV_behind hA, he, insV_old]
  unfold plT; rw [List.map_append, List.map_cons]
theorem pl_new {T : List TL} {k : Nat} {p : Int} {x : ByteArray} {s : Value} (hk : k ≤ T.length) (h1 : ∀ i (hi : i < T.length), i < k → p < T[i].1) (h2 : ∀ i (hi : i < T.length), k ≤ i → T[i].1 ≤ p) (he : ¬ ∃ h : k < T.length, T[k].1 = p) (hD : DescV (plT T)) :
    plT ((putT T k p).set k (p, s, [] ++ [x])) = insV p x (plT T) := by
  have hl : (T.take k).length = k := by rw [List.length_take]; omega
  have e2 : (putT T k p).set k (p, s, [] ++ [x]) = T.take k ++ (p, s, [x]) :: T.drop k := by
    unfold putT
    rw [List.set_append_right _ _ (by omega), hl, Nat.sub_self]; rfl
  have hA : ∀ t ∈ plT (T.take k), p < t.1 := by
    intro t ht
    unfold plT at ht
    obtain ⟨u, hu, rfl⟩ := List.mem_map.1 ht
    obtain ⟨j, hj, rfl⟩ := List.getElem_of_mem hu
    have hjk : j < k := by omega
    rw [List.getElem_take]
    exact h1 j (by omega) hjk
  have hB : ∀ t ∈ plT (T.drop k), t.1 < p := by
    intro t ht
    unfold plT at ht
    obtain ⟨u, hu, rfl⟩ := List.mem_map.1 ht
    obtain ⟨j, hj, rfl⟩ := List.getElem_of_mem hu
    rw [List.getElem_drop]
    have hjl : k + j < T.length := by rw [List.length_drop] at hj; omega
    have hkl : k < T.length := by omega
    have hlt : T[k].1 < p := by
      have := h2 k hkl (Nat.le_refl _)
      rcases Int.lt_or_eq_of_le this with h | h
      · exact h
      · exact absurd ⟨hkl, h⟩ he
    show T[k + j].1 < p
    by_cases h0 : j = 0
    · subst h0; exact hlt
    · have := descV_at hD k (k + j) (by simpa [plT] using hkl) (by simpa [plT] using hjl) (by omega)
      simp only [plT, List.getElem_map] at this
      omega
  rw [e2, split14_at (T := T) hk, insV_behind hA, insV_new hB]
  unfold plT; rw [List.map_append, List.map_cons]
theorem putT_at {T : List TL} {k : Nat} {p : Int} (hk : k ≤ T.length) (h : k < (putT T k p).length) : (putT T k p)[k] = (p, .slice none 0 0, []) := by
  have e : (putT T k p)[k]? = some (p, .slice none 0 0, []) := by
    unfold putT
    rw [List.getElem?_append_right (by rw [List.length_take]; omega)]
    simp [List.length_take, Nat.min_eq_left hk]
  rw [List.getElem?_eq_getElem h] at e
  exact Option.some.inj e
theorem mSearch_is {B : Nat} {a : Option Addr} {n cap : Nat} {T : List TL} {q : Int} {w : World} (hl : T.length ≤ 65536) (hn : Box (T.length = n)) (hD : Box (DescV (plT T))) (hL : Box (Lev w B (.slice a n cap) T)) :
    Calls Try.prog 31 #[.slice a n cap, .int .i64 q, .func (.func 32) #[] #[]] w fun e w' => SrchPost q T w e w' := by
  have hT : Ts w a T := by
    obtain ⟨a2, c2, e, h, _⟩ := hL.out.row.ts
    injection e with e1 e2 e3
    subst e1; exact h
  have := mSearch14 a cap T q w hl hD (box hL.out.slices) (box hT)
  rw [hn.out] at this; exact this
set_option maxHeartbeats 1000000 in
theorem mInsLev (B : Nat) (v : Value) (T : List TL) (x : ByteArray) (p : Int) (w : World) (hl : T.length < 65536) (hvl : Box (∀ t ∈ T, t.2.2.length ≤ 65535)) (hD : Box (DescV (plT T))) (hL : Box (Lev w B v T)) (hB : B ≤ w.heap.size) :
    Calls Try.prog 18 #[v, .string x, .int .i64 p] w fun e w' => InsLev B T p x w e w' := by
  obtain ⟨a, c, rfl, _, hc⟩ := hL.out.row.ts
  obtain ⟨n, hn⟩ : ∃ n, T.length = n := ⟨_, rfl⟩
  have HN := box hn
  rw [hn] at hL hc ⊢
  have hl' : T.length ≤ 65536 := by omega
  clear hn
  go_enter Try.func18, Try.ntmps18
  go_wp2_with fail
  refine (mSearch_is hl' HN hD hL).mono ?_; rintro e w1 ⟨k, f, rfl, hk, h1, h2, hf, hb1⟩
  cases f with
  | true =>
    obtain ⟨hkT, he⟩ := hf.1 rfl
    have B1 := box (hb1.mono hB)
    have L1 := box ((hL.out.below hb1))
    have HPL := box (fun s => pl_found (x := x) (s := s) hkT h1 he)
    have HE := box he
    clear hb1 h1 h2 hf he
    obtain ⟨b, hab⟩ : ∃ b, a = some ⟨b, 0, none⟩ := by
      obtain ⟨g, cp, e, _⟩ := World.ownsRow.form L1.out.row (Nat.lt_of_le_of_lt (Nat.zero_le _) hkT)
      injection e with e1
      exact ⟨g, e1⟩
    subst hab
    obtain ⟨VS, hVS⟩ : ∃ VS, T[k].2.2 = VS := ⟨_, rfl⟩
    obtain ⟨sa, sn, sc, hs, hsn⟩ : ∃ sa sn sc, T[k].2.1 = .slice sa sn sc ∧ VS.length = sn := by
      obtain ⟨a2, c2, e, _, _⟩ := L1.out.slice (List.getElem_mem hkT)
      exact ⟨a2, _, c2, e, by rw [hVS]⟩
    have hsl : sn ≤ 65536 := by
      have := hvl.out _ (List.getElem_mem hkT); rw [hVS] at this; omega
    have hki : (k : Int) < (n : Int) := by have := HN.out; omega
    obtain ⟨g0, off0, ea, c0, c1⟩ : ∃ g off, (some ⟨b, 0, none⟩ : Option Addr) = some ⟨g, off, none⟩ ∧ w1.cell? ⟨g, off + k * 2, none⟩ = some (.int .i64 T[k].1) ∧ w1.cell? ⟨g, off + k * 2 + 1, none⟩ = some T[k].2.1 := by
      obtain ⟨a2, c2, e, h, _⟩ := L1.out.row.ts
      injection e with e1 e2 e3
      subst e1; exact h k hkT
    injection ea with ea
    injection ea with ea eo _
    subst ea; subst eo
    rw [Nat.zero_add] at c0 c1
    rw [hs] at c1
    have fz : w1.frozen? ⟨b, k * 2 + 1, none⟩ = false := by
      rcases L1.out.row.2 with ⟨h, _⟩ | ⟨g, cap2, cur, hv, _, hg, _⟩
      · cases h
      · injection hv with e1
        injection e1 with e1
        injection e1 with e1
        subst e1
        simp [World.frozen?, hg]
    have hbW : b < w1.heap.size := cell_lt c1
    have LA := box (L1.out.below (below_new w1 (.cells #[.string x] 9)))
    have hbne : some b ≠ (Value.slice sa sn sc).ownBlock := by
      intro e
      exact lev_ne L1.out.row (L1.out.vals _ (List.getElem_mem hkT)) (k := b) rfl (by rw [hs]; exact e.symm)
    have OS : Box (OwnS (w1.alloc (.cells #[.string x] 9)) B (.slice sa sn sc) VS) := box (by
      have := LA.out.vals _ (List.getElem_mem hkT); rw [hs, hVS] at this; exact this)
    have BW : Box (Below B w (w1.alloc (.cells #[.string x] 9))) := box ((B1.out.alloc (Nat.le_trans hB B1.out.size) _))
    have hB1 : B ≤ (w1.alloc (.cells #[.string x] 9)).heap.size := Nat.le_trans hB BW.out.size
    have C2 : Box ((w1.alloc (.cells #[.string x] 9)).cell? ⟨b, k * 2 + 1, none⟩ = some (.slice sa sn sc)) := box ((World.cell?_alloc_past (w := w1) _ b _ hbW).trans c1)
    have Z2 : Box ((w1.alloc (.cells #[.string x] 9)).frozen? ⟨b, k * 2 + 1, none⟩ = false) := box ((World.frozen?_alloc_past (w := w1) _ b _ hbW).trans fz)
    have hbA : b < (w1.alloc (.cells #[.string x] 9)).heap.size := by simp; omega
    have A0 : Box ((w1.alloc (.cells #[.string x] 9)).cell? ⟨w1.heap.size, 0, none⟩ = some (.string x)) := box (World.cell?_alloc_at _ _ _ _ rfl)
    have PUT : Box (∀ g m cap wz vs, (w1.alloc (.cells #[.string x] 9)).grownBy wz (Value.slice sa sn sc).ownBlock → OwnS wz B (.slice (some ⟨g, 0, none⟩) m cap) vs → ((Value.slice sa sn sc).ownBlock = some g ∨ g = (w1.alloc (.cells #[.string x] 9)).heap.size) → Lev (wz.setCell ⟨b, k * 2 + 1, none⟩ (.slice (some ⟨g, 0, none⟩) m cap)) B (.slice (some ⟨b, 0, none⟩) n c) (T.set k (T[k].1, .slice (some ⟨g, 0, none⟩) m cap, vs)) ∧ Below B w (wz.setCell ⟨b, k * 2 + 1, none⟩ (.slice (some ⟨g, 0, none⟩) m cap))) := box (fun g m cap wz vs h1 h2 h3 => by
      obtain ⟨q1, q2⟩ := lev_put (cur := #[]) LA.out hkT (by rw [hs]; exact h1) h2 (by rw [hs]; exact h3)
      exact ⟨q1, BW.out.trans (q2.mono (Nat.le_refl _))⟩)
    have HVS := box hVS
    clear hVS hs c0 fz
    go_wp2_with (at_builtin; refine wpList_append_strL _ rfl _ _ rfl B sn (.slice sa sn sc) VS rfl OS.out hsn w1.heap.size 1 rfl x A0.out hsl hB1 ?_; intro g' cap' w9 hO2 hg2 hat; have f1 := (World.grownBy.cell_far hg2 ⟨b, k * 2 + 1, none⟩ hbA hbne).trans C2.out; have f2 := (World.grownBy.frozen_far hg2 ⟨b, k * 2 + 1, none⟩ hbA hbne).trans Z2.out)
    go_ret
    obtain ⟨q1, q2⟩ := PUT.out g' (sn + 1) cap' w9 (VS ++ [x]) hg2 hO2 hat
    exact ⟨_, _, rfl, q1, by rw [← HVS.out]; exact HPL.out _, q2⟩
  | false =>
    have hf0 : ¬ ∃ h : k < T.length, T[k].1 = p := fun h => by have := hf.2 h; cases this
    have HPL := box (fun s => pl_new (x := x) (s := s) hk h1 h2 hf0 hD.out)
    have L1 := box ((hL.out.below hb1))
    have B1 := box (hb1.mono hB)
    have LB := box (L1.out.below (below_new w1 (.cells #[.int .i64 p, .slice none 0 0] 42)))
    have hne : (Value.slice a n c).ownBlock ≠ some w1.heap.size := fun e => by
      have := (L1.out.row.lt _ e).2; omega
    have hBI : B ≤ (w1.alloc (.cells #[.int .i64 p, .slice none 0 0] 42)).heap.size := by
      have := hb1.size; simp; omega
    have SL := box LB.out.slices
    have HV : Box ((w1.alloc (.cells #[.int .i64 p, .slice none 0 0] 42)).heap[w1.heap.size]? = some (.cells #[.int .i64 p, .slice none 0 0] 42 (0, 0))) := box (heap_alloc_new w1 _)
    have OT := box LB.out.row
    clear hb1 h1 h2 hf hf0
    go_wp2_with fail
    refine (mInsert14 B (.slice a n c) T k w1.heap.size 1 p _ SL hl' hk OT hBI hne HV).mono ?_; rintro e w2 ⟨v2, rfl, hO2, hg2⟩
    have L2 := box (lev_ins LB.out hg2 hO2)
    have B2 : Box (Below B w w2) := box ((B1.out.alloc (Nat.le_trans hB B1.out.size) (.cells #[.int .i64 p, .slice none 0 0] 42)).grown hg2 hBI (fun q hq => (LB.out.row.lt q hq).1))
    have hkT : k < (putT T k p).length := by rw [putT_len T k p hk]; omega
    have hTk := putT_at (p := p) hk hkT
    have HQL : Box (∀ s, plT ((putT T k p).set k ((putT T k p)[k].1, s, (putT T k p)[k].2.2 ++ [x])) = insV p x (plT T)) := box (fun s => by rw [hTk]; exact HPL.out s)
    have hvl3 : Box (∀ t ∈ putT T k p, t.2.2.length ≤ 65535) := box (fun t ht => by
      unfold putT at ht
      rcases List.mem_append.1 ht with h | h
      · exact hvl.out t (List.mem_of_mem_take h)
      · rcases List.mem_cons.1 h with rfl | h
        · exact Nat.zero_le _
        · exact hvl.out t (List.mem_of_mem_drop h))
    obtain ⟨a2, c2, rfl, _, _⟩ := L2.out.row.ts
    clear HPL hTk hO2 hg2 LB hne hBI SL HV OT
    generalize putT T k p = T2 at hkT HQL hvl3 L2 ⊢
    obtain ⟨n2, hn2⟩ : ∃ n2, T2.length = n2 := ⟨_, rfl⟩
    have HN2 := box hn2
    rw [hn2] at L2 ⊢
    clear hn2
    obtain ⟨b, hab⟩ : ∃ b, a2 = some ⟨b, 0, none⟩ := by
      obtain ⟨g, cp, e, _⟩ := World.ownsRow.form L2.out.row (Nat.lt_of_le_of_lt (Nat.zero_le _) hkT)
      injection e with e1
      exact ⟨g, e1⟩
    subst hab
    obtain ⟨VS, hVS⟩ : ∃ VS, T2[k].2.2 = VS := ⟨_, rfl⟩
    obtain ⟨sa, sn, sc, hs, hsn⟩ : ∃ sa sn sc, T2[k].2.1 = .slice sa sn sc ∧ VS.length = sn := by
      obtain ⟨a2, c2, e, _, _⟩ := L2.out.slice (List.getElem_mem hkT)
      exact ⟨a2, _, c2, e, by rw [hVS]⟩
    have hsl : sn ≤ 65536 := by
      have := hvl3.out _ (List.getElem_mem hkT); rw [hVS] at this; omega
    have hki : (k : Int) < (n2 : Int) := by have := HN2.out; omega
    obtain ⟨g0, off0, ea, c0, c1⟩ : ∃ g off, (some ⟨b, 0, none⟩ : Option Addr) = some ⟨g, off, none⟩ ∧ w2.cell? ⟨g, off + k * 2, none⟩ = some (.int .i64 T2[k].1) ∧ w2.cell? ⟨g, off + k * 2 + 1, none⟩ = some T2[k].2.1 := by
      obtain ⟨a2, c2, e, h, _⟩ := L2.out.row.ts
      injection e with e1 e2 e3
      subst e1; exact h k hkT
    injection ea with ea
    injection ea with ea eo _
    subst ea; subst eo
    rw [Nat.zero_add] at c0 c1
    rw [hs] at c1
    have fz : w2.frozen? ⟨b, k * 2 + 1, none⟩ = false := by
      rcases L2.out.row.2 with ⟨h, _⟩ | ⟨g, cap2, cur, hv, _, hg, _⟩
      · cases h
      · injection hv with e1
        injection e1 with e1
        injection e1 with e1
        subst e1
        simp [World.frozen?, hg]
    have hbW : b < w2.heap.size := cell_lt c1
    have LA := box (L2.out.below (below_new w2 (.cells #[.string x] 9)))
    have hbne : some b ≠ (Value.slice sa sn sc).ownBlock := by
      intro e
      exact lev_ne L2.out.row (L2.out.vals _ (List.getElem_mem hkT)) (k := b) rfl (by rw [hs]; exact e.symm)
    have OS : Box (OwnS (w2.alloc (.cells #[.string x] 9)) B (.slice sa sn sc) VS) := box (by
      have := LA.out.vals _ (List.getElem_mem hkT); rw [hs, hVS] at this; exact this)
    have BW : Box (Below B w (w2.alloc (.cells #[.string x] 9))) := box ((B2.out.alloc (Nat.le_trans hB B2.out.size) _))
    have hB2 : B ≤ (w2.alloc (.cells #[.string x] 9)).heap.size := Nat.le_trans hB BW.out.size
    have C2 : Box ((w2.alloc (.cells #[.string x] 9)).cell? ⟨b, k * 2 + 1, none⟩ = some (.slice sa sn sc)) := box ((World.cell?_alloc_past (w := w2) _ b _ hbW).trans c1)
    have Z2 : Box ((w2.alloc (.cells #[.string x] 9)).frozen? ⟨b, k * 2 + 1, none⟩ = false) := box ((World.frozen?_alloc_past (w := w2) _ b _ hbW).trans fz)
    have hbA : b < (w2.alloc (.cells #[.string x] 9)).heap.size := by simp; omega
    have A0 : Box ((w2.alloc (.cells #[.string x] 9)).cell? ⟨w2.heap.size, 0, none⟩ = some (.string x)) := box (World.cell?_alloc_at _ _ _ _ rfl)
    have PUT : Box (∀ g m cap wz vs, (w2.alloc (.cells #[.string x] 9)).grownBy wz (Value.slice sa sn sc).ownBlock → OwnS wz B (.slice (some ⟨g, 0, none⟩) m cap) vs → ((Value.slice sa sn sc).ownBlock = some g ∨ g = (w2.alloc (.cells #[.string x] 9)).heap.size) → Lev (wz.setCell ⟨b, k * 2 + 1, none⟩ (.slice (some ⟨g, 0, none⟩) m cap)) B (.slice (some ⟨b, 0, none⟩) n2 c2) (T2.set k (T2[k].1, .slice (some ⟨g, 0, none⟩) m cap, vs)) ∧ Below B w (wz.setCell ⟨b, k * 2 + 1, none⟩ (.slice (some ⟨g, 0, none⟩) m cap))) := box (fun g m cap wz vs h1 h2 h3 => by
      obtain ⟨q1, q2⟩ := lev_put (cur := #[]) LA.out hkT (by rw [hs]; exact h1) h2 (by rw [hs]; exact h3)
      exact ⟨q1, BW.out.trans (q2.mono (Nat.le_refl _))⟩)
    have HVS := box hVS
    clear hVS hs c0 fz
    go_wp2_with (at_builtin; refine wpList_append_strL _ rfl _ _ rfl B sn (.slice sa sn sc) VS rfl OS.out hsn w2.heap.size 1 rfl x A0.out hsl hB2 ?_; intro g' cap' w9 hO2 hg2 hat; have f1 := (World.grownBy.cell_far hg2 ⟨b, k * 2 + 1, none⟩ hbA hbne).trans C2.out; have f2 := (World.grownBy.frozen_far hg2 ⟨b, k * 2 + 1, none⟩ hbA hbne).trans Z2.out)
    go_ret
    obtain ⟨q1, q2⟩ := PUT.out g' (sn + 1) cap' w9 (VS ++ [x]) hg2 hO2 hat
    exact ⟨_, _, rfl, q1, by rw [← HVS.out]; exact HQL.out _, q2⟩
def flatT (T : List TL) : List ByteArray := T.flatMap (·.2.2)
theorem flatT_pl (T : List TL) : flatT T = flatV (plT T) := by
  unfold flatT flatV plT; rw [List.flatMap_map]
theorem flatT_next {T : List TL} {j : Nat} (h : j < T.length) : flatT (T.take (j + 1)) = flatT (T.take j) ++ T[j].2.2 := by
  rw [List.take_succ_eq_append_getElem h]; unfold flatT; rw [List.flatMap_append]; simp
theorem flatT_le {T : List TL} {j : Nat} : (flatT (T.take j)).length ≤ (flatT T).length := by
  conv => rhs; rw [← List.take_append_drop j T]
  unfold flatT; rw [List.flatMap_append, List.length_append]; omega
theorem flatT_mem {T : List TL} {t : TL} (h : t ∈ T) : t.2.2.length ≤ (flatT T).length := by
  induction T with
  | nil => cases h
  | cons u T ih =>
    have e : flatT (u :: T) = u.2.2 ++ flatT T := rfl
    rw [e, List.length_append]
    rcases List.mem_cons.1 h with rfl | h
    · omega
    · have := ih h; omega
def RkRel (qf : ByteArray → Int) (V : List ByteArray) (W : World) (v i : Value) (wr : World) : Prop :=
  ∃ (T : List TL) (j : Nat), i = .int .i64 j ∧ j ≤ V.length ∧ Lev wr W.heap.size v T ∧ plT T = rankV qf (V.take j) ∧ Below W.heap.size W wr
def RfRel (T : List TL) (W : World) (r i : Value) (wr : World) : Prop :=
  ∃ j : Nat, i = .int .i64 j ∧ j ≤ T.length ∧ OwnS wr W.heap.size r (flatT (T.take j)) ∧ Below W.heap.size W wr
/-- what is known of the levels of the first j values -/
theorem rk_facts {qf : ByteArray → Int} {V : List ByteArray} {T : List TL} {j : Nat} (hj : j ≤ V.length) (h : plT T = rankV qf (V.take j)) : DescV (plT T) ∧ T.length ≤ j ∧ (flatT T).length ≤ j ∧ flatT T = rankQ qf (V.take j) ∧ ∀ t ∈ T, 0 < t.2.2.length := by
  obtain ⟨h1, h2, h3⟩ := rankV_all (q := qf) (V.take j).length (V.take j) rfl
  have hl : (V.take j).length = j := by rw [List.length_take]; omega
  have hp : (plT T).length = T.length := by unfold plT; simp
  refine ⟨by rw [h]; exact h1, ?_, ?_, ?_, fun t ht => ?_⟩
  · rw [← hp, h]; have := rankV_len (V := V.take j) (q := qf); omega
  · rw [flatT_pl, h]; have := flatV_len (V := V.take j) (q := qf); omega
  · rw [flatT_pl, h, h3]
  · have hm : (t.1, t.2.2) ∈ plT T := List.mem_map.2 ⟨t, ht, rfl⟩
    rw [h] at hm
    exact List.length_pos_iff.2 (h2 _ hm).1
theorem mQuality_is2 {k i : Int} {a : Option Addr} {cap : Nat} {L : List QP} {present : Bool} {v : ByteArray} {w : World} (hk : InI64 k) (hl : L.length ≤ 65536) (hz : Box (∀ i (hi : i < L.length), L[i].1.size ≤ 20000)) (hv : v.size ≤ 20000) (hF : Qs w a L) (h : Box (qualR k L present v.data.toList = i)) :
    Calls Try.prog 8 #[.int .i64 k, .slice a L.length cap, .bool present, .string v] w fun e w' => e = .returned (.int .i64 i) ∧ Below w.heap.size w w' := by
  have := mQuality_any k a cap L present v w hk hl hz hv (box hF)
  rw [h.out] at this; exact this
theorem mInsLev_is {B n c : Nat} {a : Option Addr} {T : List TL} {x : ByteArray} {p : Int} {w : World} (hl : T.length < 65536) (hvl : Box (∀ t ∈ T, t.2.2.length ≤ 65535)) (hD : Box (DescV (plT T))) (hL : Lev w B (.slice a n c) T) (hB : B ≤ w.heap.size) :
    Calls Try.prog 18 #[.slice a n c, .string x, .int .i64 p] w fun e w' => InsLev B T p x w e w' := mInsLev B _ T x p w hl hvl hD (box hL) hB
def RkPost (R : List ByteArray) (w : World) (e : Ending) (w' : World) : Prop := ∃ p c, e = .returned (.slice p R.length c) ∧ Ss w' p R ∧ Below w.heap.size w w'
set_option maxHeartbeats 1000000 in
theorem mRank0_any (k : Int) (a b : Option Addr) (cap cb : Nat) (L : List QP) (present : Bool) (V : List ByteArray) (w : World) (hk : InI64 k) (hl : L.length ≤ 65536) (hz : Box (∀ i (hi : i < L.length), L[i].1.size ≤ 20000)) (hvl : V.length ≤ 65536) (hvz : Box (∀ i (hi : i < V.length), V[i].size ≤ 20000)) (hF : Box (Qs w a L)) (hS : Box (Ss w b V)) :
    Calls Try.prog 12 #[.int .i64 k, .slice a L.length cap, .bool present, .slice b V.length cb] w fun e w' => RkPost (rankQ (fun v => qualR k L present v.data.toList) V) w e w' := by
  obtain ⟨qf, hqf⟩ : ∃ qf : ByteArray → Int, (fun v => qualR k L present v.data.toList) = qf := ⟨_, rfl⟩
  have HQF : Box (∀ v : ByteArray, qualR k L present v.data.toList = qf v) := box (fun v => by rw [← hqf])
  rw [hqf]
  clear hqf
  go_enter Try.func12, Try.ntmps12
  go_wp2
  go_loopw [9, 18] (fun v i wr => RkRel qf V w v i wr) (fun _ i _ => V.length - (intOf i).toNat)
  case atStart => exact ⟨[], 0, rfl, Nat.zero_le _, Lev.nil _ _, rfl, Below.refl _ _⟩
  case round =>
    obtain ⟨T, j, rfl, hj, hL, hp, hbel⟩ := hrel
    have LV := box hL
    have HP := box hp
    have BL := box hbel
    have HK := box (rk_facts hj hp)
    obtain ⟨sa, sc, rfl, _, hsc⟩ := hL.row.ts
    obtain ⟨n, hn⟩ : ∃ n, T.length = n := ⟨_, rfl⟩
    have HN := box hn
    rw [hn] at LV hsc ⊢
    clear hL hp hbel hn
    by_cases hlt : j < V.length
    · have hji : (j : Int) < (V.length : Int) := by omega
      obtain ⟨x, hx⟩ : ∃ x, V[j] = x := ⟨_, rfl⟩
      have hxz : x.size ≤ 20000 := by have := hvz.out j hlt; rw [hx] at this; exact this
      obtain ⟨g, off, rfl, c0⟩ := (hS.out.below BL.out) j hlt
      rw [hx] at c0
      have HX := box hx
      have Q1 := box (hF.out.below BL.out)
      obtain ⟨z, hz1⟩ : ∃ z, qf x = z := ⟨_, rfl⟩
      have HZ : Box (qualR k L present x.data.toList = z) := box ((HQF.out x).trans hz1)
      have HN1 : Box (rankV qf (V.take (j + 1)) = stepV qf (rankV qf (V.take j)) x) := box (by rw [rankV_next hlt, hx])
      have HZ1 := box hz1
      clear hx hz1
      by_cases hpos : 0 < z
      · have HI : Box (insV z x (plT T) = rankV qf (V.take (j + 1))) := box (by
          rw [HN1.out, HP.out]; unfold stepV; rw [HZ1.out, if_pos hpos])
        go_wp2_with fail
        refine (mQuality_is2 hk hl hz hxz Q1.out HZ).mono ?_; rintro e w2 ⟨rfl, hb2⟩
        have L2 := box (LV.out.below hb2)
        have B2 := box (BL.out.trans (hb2.mono BL.out.size))
        have hB2 : w.heap.size ≤ w2.heap.size := B2.out.size
        have hTl : T.length < 65536 := by have := HK.out.2.1; omega
        have HVL : Box (∀ t ∈ T, t.2.2.length ≤ 65535) := box (fun t ht => by have := flatT_mem ht; have := HK.out.2.2.1; omega)
        have HD := box HK.out.1
        clear hb2 c0
        go_wp2_with fail
        refine (mInsLev_is hTl HVL HD L2.out hB2).mono ?_; rintro e w3 ⟨v3, T3, rfl, hL3, hp3, hb3⟩
        have B3 := box (B2.out.trans hb3)
        have L3 := box hL3
        have HP3 := box (hp3.trans HI.out)
        clear hb3 hL3 hp3
        go_wp2
        go_roundw
        case rel => exact ⟨T3, j + 1, by go_num, hlt, L3.out, HP3.out, B3.out⟩
        case measure => simp [intOf]; omega
      · have HI : Box (plT T = rankV qf (V.take (j + 1))) := box (by
          rw [HN1.out, HP.out]; unfold stepV; rw [HZ1.out, if_neg hpos])
        go_wp2_with fail
        refine (mQuality_is2 hk hl hz hxz Q1.out HZ).mono ?_; rintro e w2 ⟨rfl, hb2⟩
        have L2 := box (LV.out.below hb2)
        have B2 := box (BL.out.trans (hb2.mono BL.out.size))
        clear hb2 c0
        go_wp2
        go_roundw
        case rel => exact ⟨T, j + 1, by go_num, hlt, L2.out, HI.out, B2.out⟩
        case measure => simp [intOf]; omega
    · have hji : ¬ (j : Int) < (V.length : Int) := by omega
      have HR : Box (flatT T = rankQ qf V) := box (by
        have hjl : j = V.length := by omega
        subst hjl
        have := HK.out.2.2.2.1
        rw [List.take_length] at this; exact this)
      have hfl : (flatT T).length ≤ 65536 := by have := HK.out.2.2.1; omega
      have hTl : T.length ≤ 65536 := by have := HK.out.2.1; omega
      obtain ⟨wo, rfl⟩ : ∃ wo, wo = wr := ⟨_, rfl⟩
      go_wp2
      go_loopw [13, 36] (fun r i w5 => RfRel T wo r i w5) (fun _ i _ => T.length - (intOf i).toNat)
      case atStart => exact ⟨0, rfl, Nat.zero_le _, OwnS.nil _ _, Below.refl _ _⟩
      case round =>
        obtain ⟨m, rfl, hm, hO, hb5⟩ := hrel
        have B5 := box hb5
        have BA := box (BL.out.trans (hb5.mono BL.out.size))
        have L5 := box (LV.out.below hb5)
        have O5 := box hO
        have hs5 := hb5.size
        obtain ⟨ra, rc, rfl, hSr, _⟩ := hO.ss
        have SR := box hSr
        obtain ⟨rn, hrn⟩ : ∃ rn, (flatT (T.take m)).length = rn := ⟨_, rfl⟩
        have HRN := box hrn
        have hrl : rn ≤ 65536 := by have := flatT_le (T := T) (j := m); omega
        rw [hrn] at O5 ⊢
        clear hO hb5 hSr hrn
        by_cases hmt : m < T.length
        · have hmi : (m : Int) < (n : Int) := by have := HN.out; omega
          obtain ⟨vs, hvs⟩ : ∃ vs, T[m].2.2 = vs := ⟨_, rfl⟩
          obtain ⟨qa, hqa⟩ : ∃ qa, T[m].1 = qa := ⟨_, rfl⟩
          obtain ⟨va, vn, vc, hv2, hvn, hSv⟩ : ∃ va vn vc, T[m].2.1 = .slice va vn vc ∧ vs.length = vn ∧ Ss wr va vs := by
            obtain ⟨a2, c2, e, h, _⟩ := L5.out.slice (List.getElem_mem hmt)
            exact ⟨a2, _, c2, by rw [e, hvs], rfl, by rw [← hvs]; exact h⟩
          have hv0 : 0 < vn := by have := HK.out.2.2.2.2 _ (List.getElem_mem hmt); rw [hvs] at this; omega
          have hvn6 : vn ≤ 65536 := by have := flatT_mem (List.getElem_mem hmt); rw [hvs] at this; omega
          obtain ⟨pa, rfl⟩ : ∃ pa, va = some pa := by
            obtain ⟨g, off, e, _⟩ := hSv 0 (by omega)
            exact ⟨_, e⟩
          obtain ⟨g, off, rfl, c0, c1⟩ : ∃ g off, sa = some ⟨g, off, none⟩ ∧ wr.cell? ⟨g, off + m * 2, none⟩ = some (.int .i64 T[m].1) ∧ wr.cell? ⟨g, off + m * 2 + 1, none⟩ = some T[m].2.1 := by
            obtain ⟨a2, c2, e, h, _⟩ := L5.out.row.ts
            injection e with e1 e2 e3
            subst e1; exact h m hmt
          rw [hqa] at c0
          rw [hv2] at c1
          have HM : Box (flatT (T.take (m + 1)) = flatT (T.take m) ++ vs) := box (by rw [flatT_next hmt, hvs])
          have OA : Box (OwnS (wr.alloc (.cells #[.int .i64 qa, .slice (some pa) vn vc] 42)) wo.heap.size (.slice ra rn rc) (flatT (T.take m))) := box (own_below O5.out (below_new _ _))
          have SV := box (hSv.below (below_new wr (.cells #[.int .i64 qa, .slice (some pa) vn vc] 42)))
          have B6 := box (B5.out.alloc hs5 (.cells #[.int .i64 qa, .slice (some pa) vn vc] 42))
          have hs6 := B6.out.size
          have hrl2 : (flatT (T.take m)).length ≤ 65536 := by have := HRN.out; omega
          clear hvs hqa hv2 hSv
          go_wp2_with (at_builtin; refine wpList_append_strs _ rfl _ _ rfl wo.heap.size (.slice ra rn rc) (flatT (T.take m)) rfl OA.out vs pa vn vc rfl hvn SV.out hv0 hrl2 hvn6 hs6 ?_; intro v7 w7 hO7 hb7)
          have B7 := box (B6.out.trans hb7)
          have O7 : Box (OwnS w7 wo.heap.size v7 (flatT (T.take (m + 1)))) := box (by rw [HM.out]; exact hO7)
          clear hO7 hb7
          go_wp2
          go_roundw
          case rel => exact ⟨m + 1, by go_num, hmt, O7.out, B7.out⟩
          case measure => simp [intOf]; omega
        · have hmi : ¬ (m : Int) < (n : Int) := by have := HN.out; omega
          have HF : Box (flatT (T.take m) = rankQ qf V) := box (by
            have : m = T.length := by omega
            subst this
            rw [List.take_length]; exact HR.out)
          go_wp2
          go_ret
          exact ⟨ra, rc, by rw [← HF.out, HRN.out]; rfl, by rw [← HF.out]; exact SR.out, BA.out⟩
theorem mRank_any (k : Int) (a b : Option Addr) (cap cb : Nat) (L : List QP) (present : Bool) (V : List ByteArray) (w : World) (hk : InI64 k) (hl : L.length ≤ 65536) (hz : Box (∀ i (hi : i < L.length), L[i].1.size ≤ 20000)) (hvl : V.length ≤ 65536) (hvz : Box (∀ i (hi : i < V.length), V[i].size ≤ 20000)) (hF : Box (Qs w a L)) (hS : Box (Ss w b V)) :
    Calls Try.prog 12 #[.int .i64 k, .slice a L.length cap, .bool present, .slice b V.length cb] w fun e w' => ∃ p c, e = .returned (.slice p (rankQ (fun v => qualR k L present v.data.toList) V).length c) ∧ Ss w' p (rankQ (fun v => qualR k L present v.data.toList) V) ∧ Below w.heap.size w w' :=
  (mRank0_any k a b cap cb L present V w hk hl hz hvl hvz hF hS).mono fun e w' h => h
end
section
open Go.RowKit
def okS (x : ByteArray) : Bool := decide (x.size ≤ 100)
def keepS (L : List ByteArray) : Bool := decide (L.length ≤ 20) && L.all okS
theorem keepS_bad {L : List ByteArray} {k : Nat} (h : k < L.length) (e : ¬ L[k].size ≤ 100) : keepS L = false := by
  unfold keepS
  have : L.all okS = false := by
    rw [List.all_eq_false]
    exact ⟨L[k], List.getElem_mem h, by unfold okS; simpa using e⟩
  rw [this, Bool.and_false]
theorem keepS_long {L : List ByteArray} (h : ¬ L.length ≤ 20) : keepS L = false := by unfold keepS; rw [decide_eq_false h, Bool.false_and]
theorem keepS_more {L : List ByteArray} {k : Nat} (h : k < L.length) (ha : (L.take k).all okS = true) (e : L[k].size ≤ 100) : (L.take (k + 1)).all okS = true := by
  rw [List.take_add_one, List.getElem?_eq_getElem h, List.all_append, ha]
  simp [okS, e]
theorem keepS_end {L : List ByteArray} (ha : (L.take L.length).all okS = true) (h : L.length ≤ 20) : keepS L = true := by
  rw [List.take_length] at ha
  unfold keepS; rw [ha, decide_eq_true h]; rfl
theorem keepS_small {L : List ByteArray} (h : keepS L = true) : L.length ≤ 20 ∧ ∀ x ∈ L, x.size ≤ 100 := by
  unfold keepS at h
  rw [Bool.and_eq_true, decide_eq_true_eq, List.all_eq_true] at h
  exact ⟨h.1, fun x hx => by have := h.2 x hx; unfold okS at this; simpa using this⟩
theorem keepStrings_any (a : Option Addr) (cap : Nat) (L : List ByteArray) (w : World) (hl : L.length ≤ maxLen) (hF : Box (Ss w a L)) :
    Calls Try.prog 11 #[.slice a L.length cap] w fun e w' => e = .returned (.bool (keepS L)) ∧ w = w' := by
  unfold maxLen at hl
  go_enter Try.func11, Try.ntmps11
  go_wp2
  go_loop [3] (fun i => ∃ k : Nat, k ≤ L.length ∧ k ≤ 21 ∧ i = .int .i64 k ∧ (L.take k).all okS = true) (fun i => 21 - (intOf i).toNat)
  case atStart => exact ⟨0, Nat.zero_le _, Nat.zero_le _, rfl, rfl⟩
  case round =>
    obtain ⟨k, hk, hk71, rfl, hall⟩ := hrel
    have HA := box hall
    clear hall
    by_cases hlt : k < L.length
    · by_cases h71 : k < 21
      · obtain ⟨g, off, rfl, c0⟩ := hF.out k hlt
        by_cases e1 : L[k].size ≤ 100
        · have ei : ¬ (100 : Int) < (L[k].size : Int) := by omega
          have HN := box (keepS_more hlt HA.out e1)
          clear e1
          go_wp2
          go_round
          case rel => exact ⟨k + 1, by omega, by omega, by go_num, HN.out⟩
          case measure => simp [intOf]; omega
        · have ei : (100 : Int) < (L[k].size : Int) := by omega
          have HN := box (keepS_bad hlt e1)
          clear e1
          go_wp2
          go_ret
          exact ⟨ret_bool HN.out.symm, rfl⟩
      · go_wp2
        go_ret
        exact ⟨ret_bool (by rw [keepS_long (by omega)]; simp; omega), rfl⟩
    · have e : k = L.length := by omega
      have E := box e
      clear e
      by_cases h70 : L.length ≤ 20
      · go_wp2
        go_ret
        refine ⟨ret_bool ?_, rfl⟩
        have ha := HA.out
        rw [E.out] at ha
        rw [keepS_end ha h70]
        simp; omega
      · go_wp2
        go_ret
        exact ⟨ret_bool (by rw [keepS_long h70]; simp; omega), rfl⟩
end
end Go.Proofs.Ytgmfmlcpogbolaa.Asc
