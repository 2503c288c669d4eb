/- The contracts of package etag's isTagByte, isTag, Parse, Format, Strong, Weak, and of strings.CutPrefix, strings.CutSuffix at a quote. (Made by tools/geneta3.py.) -/
import Derived.Test.YtchbhpfloinbdaaEtaRef2
set_option linter.unusedVariables false
set_option linter.unusedSimpArgs false
set_option maxRecDepth 100000
namespace Go.Proofs.Ytchbhpfloinbdaa.Asc
open Go.RowKit

theorem isTagByte_any (b : Int) (w : World) (h0 : 0 ≤ b) (h1 : b ≤ 255) :
    Calls Try.prog 37 #[.int .u8 b] w fun e w' => e = .returned (.bool (tagI b)) ∧ w = w' := by
  go_enter Try.func37, Try.ntmps37
  go_wp2
  all_goals (go_ret; exact ⟨ret_bool (by rw [Bool.eq_iff_iff]; simp [tagI, *] <;> omega), rfl⟩)
theorem isTag_any (s : ByteArray) (w : World) (hs : s.size ≤ maxLen) :
    Calls Try.prog 28 #[.string s] w fun e w' => e = .returned (.bool (tagT s.data.toList)) ∧ w = w' := by
  unfold maxLen at hs
  go_enter Try.func28, Try.ntmps28
  go_wp2
  go_loop [6] (fun i => ∃ k : Nat, k ≤ s.size ∧ i = .int .i64 k ∧ allI tagI (s.data.toList.take k) = true) (fun i => s.size - (intOf i).toNat)
  case atStart => exact ⟨0, Nat.zero_le _, rfl, rfl⟩
  case round =>
    obtain ⟨k, hk, rfl, hall⟩ := hrel
    by_cases hlt : k < s.size
    · have hb := byte_bd s k hlt
      rcases hp : tagI (s[k].toNat) with _ | _
      · go_wp2_with (go_at_call 37; refine (isTagByte_any _ _ hb.1 hb.2).mono ?_; rintro e w' ⟨rfl, rfl⟩)
        go_ret
        exact ⟨ret_bool (tagT_not hlt hp).symm, rfl⟩
      · go_wp2_with (go_at_call 37; refine (isTagByte_any _ _ hb.1 hb.2).mono ?_; rintro e w' ⟨rfl, rfl⟩)
        go_round
        case rel => exact ⟨k + 1, by omega, by go_num, all_more hall hlt hp⟩
        case measure => simp [intOf]; omega
    · go_wp2
      go_ret
      exact ⟨ret_bool (tagT_end hall (by omega)).symm, rfl⟩
theorem isTag_is {s : ByteArray} {b : Bool} {w : World} (hs : s.size ≤ 65536) (h : Box (tagT s.data.toList = b)) :
    Calls Try.prog 28 #[.string s] w fun e w' => e = .returned (.bool b) ∧ w = w' :=
  (isTag_any s w (by unfold maxLen; omega)).mono fun e w' ⟨h1, h2⟩ => ⟨by rw [h1, h.out], h2⟩
/-- does the text begin so? -/
def pre21 (l p : List UInt8) : Bool := l.take p.length == p
theorem hasPre21_is {s p : ByteArray} {b : Bool} {w : World} (hs : s.size ≤ 4000000) (hp : p.size ≤ 65536) (hb : Box (pre21 s.data.toList p.data.toList = b)) :
    Calls Try.prog 44 #[.string s, .string p] w fun e w' => e = .returned (.bool b) ∧ w = w' := by
  have hz : s.data.toList.length = s.size := by simp
  have hz2 : p.data.toList.length = p.size := by simp
  by_cases h : p.size ≤ s.size
  · have HE : ((s.extract 0 p.size).toList == p.toList) = b := by
      rw [← hb.out]; unfold pre21
      rw [toList_data, toList_data, ext_bs, List.drop_zero, hz2]; rfl
    have hi : (p.size : Int) ≤ (s.size : Int) := by omega
    clear hz hz2
    go_enter Try.func44, Try.ntmps44
    go_wp2
    go_ret
    exact ⟨rfl, rfl⟩
  · have HE : Box (b = false) := box (by
      rw [← hb.out]; unfold pre21
      rw [beq_eq_false_iff_ne]
      intro e
      have := congrArg List.length e
      rw [List.length_take] at this
      omega)
    have hi : (s.size : Int) < (p.size : Int) := by omega
    clear hz hz2
    go_enter Try.func44, Try.ntmps44
    go_wp2
    go_ret
    exact ⟨ret_bool HE.out.symm, rfl⟩
theorem pre21_le {s p : ByteArray} (h : pre21 s.data.toList p.data.toList = true) : p.size ≤ s.size := by
  unfold pre21 at h
  rw [beq_iff_eq] at h
  have := congrArg List.length h
  rw [List.length_take] at this
  simp at this; omega
theorem scutPre21_no {s p : ByteArray} {w : World} (hs : s.size ≤ 4000000) (hp : p.size ≤ 65536) (h : Box (pre21 s.data.toList p.data.toList = false)) :
    Calls Try.prog 35 #[.string s, .string p] w fun e w' => e = .returned (.tuple #[.string s, .bool false]) ∧ w = w' := by
  go_enter Try.func35, Try.ntmps35
  go_wp2_with fail
  refine (hasPre21_is hs hp h).mono ?_; rintro e w1 ⟨rfl, rfl⟩
  go_wp2
  go_ret2
  exact ⟨rfl, rfl⟩
theorem scutPre21_yes {s p x : ByteArray} {w : World} (hs : s.size ≤ 4000000) (hp : p.size ≤ 65536) (h : Box (pre21 s.data.toList p.data.toList = true)) (hx : Box (s.extract p.size s.size = x)) :
    Calls Try.prog 35 #[.string s, .string p] w fun e w' => e = .returned (.tuple #[.string x, .bool true]) ∧ w = w' := by
  have hle := pre21_le h.out
  have hli : (p.size : Int) ≤ (s.size : Int) := by omega
  go_enter Try.func35, Try.ntmps35
  go_wp2_with fail
  refine (hasPre21_is hs hp h).mono ?_; rintro e w1 ⟨rfl, rfl⟩
  go_wp2
  go_ret2
  exact ⟨by rw [← hx.out]; rfl, rfl⟩
theorem cutPre21_no {s p : ByteArray} {w : World} (hs : s.size ≤ 4000000) (hp : p.size ≤ 65536) (h : Box (pre21 s.data.toList p.data.toList = false)) :
    Calls Try.prog 26 #[.string s, .string p] w fun e w' => e = .returned (.tuple #[.string s, .bool false]) ∧ w = w' := by
  go_enter Try.func26, Try.ntmps26
  go_wp2_with fail
  refine (scutPre21_no hs hp h).mono ?_; rintro e w1 ⟨rfl, rfl⟩
  go_wp2
  go_ret2
  exact ⟨rfl, rfl⟩
theorem cutPre21_yes {s p x : ByteArray} {w : World} (hs : s.size ≤ 4000000) (hp : p.size ≤ 65536) (h : Box (pre21 s.data.toList p.data.toList = true)) (hx : Box (s.extract p.size s.size = x)) :
    Calls Try.prog 26 #[.string s, .string p] w fun e w' => e = .returned (.tuple #[.string x, .bool true]) ∧ w = w' := by
  go_enter Try.func26, Try.ntmps26
  go_wp2_with fail
  refine (scutPre21_yes hs hp h hx).mono ?_; rintro e w1 ⟨rfl, rfl⟩
  go_wp2
  go_ret2
  exact ⟨rfl, rfl⟩
theorem one_suf21 {s : ByteArray} {c : UInt8} (h : 1 ≤ s.size) : ((s.extract (s.size - 1) s.size).toList == [c]) = decide (s.data.toList.getLast? = some c) := by
  have hl : s.data.toList.length = s.size := by simp
  have h2 : (s.extract (s.size - 1) s.size).toList = s.data.toList.drop (s.size - 1) := by
    rw [toList_data, ByteArray.data_extract, Array.toList_extract, List.extract_eq_take_drop, List.take_of_length_le (by rw [List.length_drop, hl]; omega)]
  rw [h2, ← hl]
  have hne : s.data.toList ≠ [] := fun e => by rw [e] at hl; simp at hl; omega
  have e2 : s.data.toList.drop (s.data.toList.length - 1) = [s.data.toList.getLast hne] := by
    obtain ⟨a, d, ha⟩ : ∃ a d, s.data.toList = a ++ [d] := ⟨_, _, (List.dropLast_concat_getLast hne).symm⟩
    have hg : s.data.toList.getLast hne = d := by simp [ha]
    rw [hg, ha]; simp
  rw [e2, List.getLast?_eq_some_getLast hne]
  by_cases q : s.data.toList.getLast hne = c
  · rw [q]; simp
  · rw [decide_eq_false (by simpa using q)]; exact beq_eq_false_iff_ne.2 (by simpa using q)
theorem hasSuf34q_is {s : ByteArray} {b : Bool} {w : World} (hs : s.size ≤ 65000) (h : Box (decide (s.data.toList.getLast? = some 34) = b)) :
    Calls Try.prog 45 #[.string s, .string ⟨#[34]⟩] w fun e w' => e = .returned (.bool b) ∧ w = w' := by
  by_cases h1 : 1 ≤ s.size
  · have hi : (1 : Int) ≤ (s.size : Int) := by omega
    have ht := one_suf21 (c := 34) h1
    obtain ⟨p, hp⟩ : ∃ p, s.size - 1 = p := ⟨_, rfl⟩
    have hpi : (s.size : Int) - 1 = (p : Int) := by omega
    have hps : (p : Int) ≤ (s.size : Int) := by omega
    rw [h.out, hp] at ht
    clear hp h1
    go_enter Try.func45, Try.ntmps45
    go_wp2
    go_ret
    exact ⟨rfl, rfl⟩
  · have hi : ¬ (1 : Int) ≤ (s.size : Int) := by omega
    have hb : b = false := by
      rw [← h.out]
      have : s.data.toList = [] := List.eq_nil_of_length_eq_zero (by have : s.data.toList.length = s.size := by simp
                                                                     omega)
      rw [this]; rfl
    subst hb
    go_enter Try.func45, Try.ntmps45
    go_wp2
    go_ret
    exact ⟨rfl, rfl⟩
theorem scutSuf34q_yes {s : ByteArray} {w : World} (hs : s.size ≤ 65000) (h : Box (s.data.toList.getLast? = some 34)) :
    Calls Try.prog 36 #[.string s, .string ⟨#[34]⟩] w fun e w' => e = .returned (.tuple #[.string (s.extract 0 (s.size - 1)), .bool true]) ∧ w = w' := by
  have HB : Box (decide (s.data.toList.getLast? = some 34) = true) := box (decide_eq_true h.out)
  have h1 : (1 : Int) ≤ (s.size : Int) := by
    have hl : s.data.toList.length = s.size := by simp
    have hh := h.out
    have : s.data.toList ≠ [] := fun e => by rw [e] at hh; cases hh
    have := List.length_pos_iff.2 this
    omega
  obtain ⟨p, hp⟩ : ∃ p, s.size - 1 = p := ⟨_, rfl⟩
  have hpi : (s.size : Int) - 1 = (p : Int) := by omega
  have hps : (p : Int) ≤ (s.size : Int) := by omega
  have hpn : p ≤ s.size := by omega
  rw [hp]
  clear hp
  go_enter Try.func36, Try.ntmps36
  go_wp2_with fail
  refine (hasSuf34q_is hs HB).mono ?_; rintro e w1 ⟨rfl, rfl⟩
  go_wp2
  go_ret2
  exact ⟨rfl, rfl⟩
theorem cutSuf34q_yes {s : ByteArray} {w : World} (hs : s.size ≤ 65000) (h : Box (s.data.toList.getLast? = some 34)) :
    Calls Try.prog 27 #[.string s, .string ⟨#[34]⟩] w fun e w' => e = .returned (.tuple #[.string (s.extract 0 (s.size - 1)), .bool true]) ∧ w = w' := by
  go_enter Try.func27, Try.ntmps27
  go_wp2_with fail
  refine (scutSuf34q_yes hs h).mono ?_; rintro e w1 ⟨rfl, rfl⟩
  go_wp2
  go_ret2
  exact ⟨rfl, rfl⟩
theorem scutSuf34q_no {s : ByteArray} {w : World} (hs : s.size ≤ 65000) (h : Box (s.data.toList.getLast? ≠ some 34)) :
    Calls Try.prog 36 #[.string s, .string ⟨#[34]⟩] w fun e w' => e = .returned (.tuple #[.string s, .bool false]) ∧ w = w' := by
  have HB : Box (decide (s.data.toList.getLast? = some 34) = false) := box (decide_eq_false h.out)
  go_enter Try.func36, Try.ntmps36
  go_wp2_with fail
  refine (hasSuf34q_is hs HB).mono ?_; rintro e w1 ⟨rfl, rfl⟩
  go_wp2
  go_ret2
  exact ⟨rfl, rfl⟩
theorem cutSuf34q_no {s : ByteArray} {w : World} (hs : s.size ≤ 65000) (h : Box (s.data.toList.getLast? ≠ some 34)) :
    Calls Try.prog 27 #[.string s, .string ⟨#[34]⟩] w fun e w' => e = .returned (.tuple #[.string s, .bool false]) ∧ w = w' := by
  go_enter Try.func27, Try.ntmps27
  go_wp2_with fail
  refine (scutSuf34q_no hs h).mono ?_; rintro e w1 ⟨rfl, rfl⟩
  go_wp2
  go_ret2
  exact ⟨rfl, rfl⟩

theorem cutSuf34q_any {s : ByteArray} {w : World} (hs : s.size ≤ 65000) :
    Calls Try.prog 27 #[.string s, .string ⟨#[34]⟩] w fun e w' => (∃ y q, e = .returned (.tuple #[.string y, .bool q])) ∧ w = w' := by
  by_cases h : s.data.toList.getLast? = some 34
  · exact (cutSuf34q_yes hs (box h)).mono fun e w' ⟨h1, h2⟩ => ⟨⟨_, _, h1⟩, h2⟩
  · exact (cutSuf34q_no hs (box h)).mono fun e w' ⟨h1, h2⟩ => ⟨⟨_, _, h1⟩, h2⟩
theorem cutSuf34q_is {s x : ByteArray} {w : World} (hs : s.size ≤ 65000) (h : Box (s.data.toList.getLast? = some 34)) (hx : Box (s.extract 0 (s.size - 1) = x)) :
    Calls Try.prog 27 #[.string s, .string ⟨#[34]⟩] w fun e w' => e = .returned (.tuple #[.string x, .bool true]) ∧ w = w' :=
  (cutSuf34q_yes hs h).mono fun e w' ⟨h1, h2⟩ => ⟨by rw [h1, hx.out], h2⟩
theorem pre21_two {l : List UInt8} : pre21 l [87, 47] = true ↔ l.take 2 = [87, 47] := by unfold pre21; rw [beq_iff_eq]; rfl
theorem pre21_one {l : List UInt8} : pre21 l [34] = true ↔ ∃ r, l = 34 :: r := by
  unfold pre21; rw [beq_iff_eq]
  cases l with
  | nil => simp
  | cons c r => simp
theorem ext_drop21 {s : ByteArray} (k : Nat) : (s.extract k s.size).data.toList = s.data.toList.drop k := by rw [ext_bs, bs_toList, List.take_of_length_le (by simp)]
theorem ext_last {s : ByteArray} : (s.extract 0 (s.size - 1)).data.toList = s.data.toList.dropLast := by
  rw [ext_bs, bs_toList, List.drop_zero, List.dropLast_eq_take]; simp
set_option maxHeartbeats 4000000 in
theorem mParE_w (s : ByteArray) (w : World) (hs : s.size ≤ 65000) (h0 : s.data.toList.take 2 = [87, 47]) (x : ByteArray) (hx : s.extract 2 s.size = x) :
    Calls Try.prog 8 #[.string s] w fun e w' => e = .returned (tgV (parE s.data.toList)) ∧ Below w.heap.size w w' := by
  have hpar : parE s.data.toList = (tagOf x.data.toList).map fun t => (true, bs t) := parE_w hx h0
  have hs4 : s.size ≤ 4000000 := by omega
  have HW : Box (pre21 s.data.toList (⟨#[87, 47]⟩ : ByteArray).data.toList = true) := box (pre21_two.mpr h0)
  have HX : Box (s.extract (⟨#[87, 47]⟩ : ByteArray).size s.size = x) := box hx
  have hxz : x.size ≤ 65000 := by rw [← hx]; simp; omega
  have hx4 : x.size ≤ 4000000 := by omega
  by_cases h1 : ∃ r, x.data.toList = 34 :: r
  · have HP : Box (pre21 x.data.toList (⟨#[34]⟩ : ByteArray).data.toList = true) := box (pre21_one.mpr h1)
    obtain ⟨z, hz⟩ : ∃ z, x.extract 1 x.size = z := ⟨_, rfl⟩
    have HZ : Box (x.extract (⟨#[34]⟩ : ByteArray).size x.size = z) := box hz
    have hzz : z.size ≤ 65000 := by rw [← hz]; simp; omega
    have hxl : x.data.toList = 34 :: z.data.toList := by
      obtain ⟨r, hr⟩ := h1
      rw [← hz, ext_drop21, hr]; rfl
    have hpar2 : parE s.data.toList = (tagOf (34 :: z.data.toList)).map fun t => (true, bs t) := by rw [hpar, hxl]
    clear h1 hz hxl
    by_cases h2 : z.data.toList.getLast? = some 34
    · have HL := box h2
      obtain ⟨y, hy⟩ : ∃ y, z.extract 0 (z.size - 1) = y := ⟨_, rfl⟩
      have HY := box hy
      have hyz : y.size ≤ 65536 := by rw [← hy]; simp; omega
      have hyl : z.data.toList.dropLast = y.data.toList := by rw [← hy, ext_last]
      rw [tagOf_cons, hyl] at hpar2
      clear hy hyl
      cases hg : tagT y.data.toList with
      | false =>
        have HB := box hg
        have HE : Box (parE s.data.toList = none) := box (by rw [hpar2, if_neg (fun q => by rw [hg] at q; cases q.2.2)]; rfl)
        clear hg h2
        obtain ⟨⟨r0, r1⟩, ⟨f0, f1⟩⟩ := T2.new (.bool false) (.string ⟨#[]⟩) w 23
        clear hpar hx h0 hpar2
        go_enter Try.func8, Try.ntmps8
        go_wp2_with fail
        refine (cutPre21_yes hs4 (by decide) HW HX).mono ?_; rintro e w1 ⟨rfl, rfl⟩
        go_wp2_with fail
        refine (cutPre21_yes hx4 (by decide) HP HZ).mono ?_; rintro e w1 ⟨rfl, rfl⟩
        go_wp2_with fail
        refine (cutSuf34q_is hzz HL HY).mono ?_; rintro e w1 ⟨rfl, rfl⟩
        go_wp2_with fail
        refine (isTag_is hyz HB).mono ?_; rintro e w1 ⟨rfl, rfl⟩
        go_wp2
        (try simp only [Exit.inBlock, Exit.then])
        refine bodyPost_ret (v := tgV none) (by rw [results_cell_tmp rfl]; go_simp; rfl) rfl ?_
        exact ⟨by rw [HE.out], by first | exact below_new _ _ | exact set2_below (below_new _ _) (Nat.le_refl _) _ _⟩
      | true =>
        have HB := box hg
        have HE : Box (parE s.data.toList = some (true, y)) := box (by rw [hpar2, if_pos ⟨rfl, h2, hg⟩]; rfl)
        clear hg h2
        obtain ⟨⟨r0, r1⟩, ⟨f0, f1⟩⟩ := T2.new (.bool false) (.string ⟨#[]⟩) w 23
        clear hpar hx h0 hpar2
        go_enter Try.func8, Try.ntmps8
        go_wp2_with fail
        refine (cutPre21_yes hs4 (by decide) HW HX).mono ?_; rintro e w1 ⟨rfl, rfl⟩
        go_wp2_with fail
        refine (cutPre21_yes hx4 (by decide) HP HZ).mono ?_; rintro e w1 ⟨rfl, rfl⟩
        go_wp2_with fail
        refine (cutSuf34q_is hzz HL HY).mono ?_; rintro e w1 ⟨rfl, rfl⟩
        go_wp2_with fail
        refine (isTag_is hyz HB).mono ?_; rintro e w1 ⟨rfl, rfl⟩
        go_wp2
        (try simp only [Exit.inBlock, Exit.then])
        refine bodyPost_ret (v := tgV (some (true, y))) (by rw [results_cell_tmp rfl]; go_simp; rfl) rfl ?_
        exact ⟨by rw [HE.out], by first | exact below_new _ _ | exact set2_below (below_new _ _) (Nat.le_refl _) _ _⟩
    · have HL := box h2
      have HE : Box (parE s.data.toList = none) := box (by rw [hpar2, tagOf_no2 h2]; rfl)
      clear h2
      obtain ⟨⟨r0, r1⟩, ⟨f0, f1⟩⟩ := T2.new (.bool false) (.string ⟨#[]⟩) w 23
      clear hpar hx h0 hpar2
      go_enter Try.func8, Try.ntmps8
      go_wp2_with fail
      refine (cutPre21_yes hs4 (by decide) HW HX).mono ?_; rintro e w1 ⟨rfl, rfl⟩
      go_wp2_with fail
      refine (cutPre21_yes hx4 (by decide) HP HZ).mono ?_; rintro e w1 ⟨rfl, rfl⟩
      go_wp2_with fail
      refine (cutSuf34q_no hzz HL).mono ?_; rintro e w1 ⟨rfl, rfl⟩
      go_wp2
      (try simp only [Exit.inBlock, Exit.then])
      refine bodyPost_ret (v := tgV none) (by rw [results_cell_tmp rfl]; go_simp; rfl) rfl ?_
      exact ⟨by rw [HE.out], by first | exact below_new _ _ | exact set2_below (below_new _ _) (Nat.le_refl _) _ _⟩
  · have HP : Box (pre21 x.data.toList (⟨#[34]⟩ : ByteArray).data.toList = false) := box (by rw [← Bool.not_eq_true]; exact fun e => h1 (pre21_one.mp e))
    have HE : Box (parE s.data.toList = none) := box (by
      rw [hpar, tagOf_no1 (fun e => h1 (by
        rcases hl : x.data.toList with _ | ⟨c, r⟩
        · rw [hl] at e; cases e
        · rw [hl] at e; exact ⟨r, by rw [Option.some.inj e]⟩))]; rfl)
    clear h1
    obtain ⟨⟨r0, r1⟩, ⟨f0, f1⟩⟩ := T2.new (.bool false) (.string ⟨#[]⟩) w 23
    clear hpar hx h0
    go_enter Try.func8, Try.ntmps8
    go_wp2_with fail
    refine (cutPre21_yes hs4 (by decide) HW HX).mono ?_; rintro e w1 ⟨rfl, rfl⟩
    go_wp2_with fail
    refine (cutPre21_no hx4 (by decide) HP).mono ?_; rintro e w1 ⟨rfl, rfl⟩
    go_wp2_with fail
    refine (cutSuf34q_any hxz).mono ?_; rintro e w1 ⟨⟨y3, q3, rfl⟩, rfl⟩
    go_wp2
    (try simp only [Exit.inBlock, Exit.then])
    refine bodyPost_ret (v := tgV none) (by rw [results_cell_tmp rfl]; go_simp; rfl) rfl ?_
    exact ⟨by rw [HE.out], by first | exact below_new _ _ | exact set2_below (below_new _ _) (Nat.le_refl _) _ _⟩
set_option maxHeartbeats 4000000 in
theorem mParE_s (s : ByteArray) (w : World) (hs : s.size ≤ 65000) (h0 : s.data.toList.take 2 ≠ [87, 47]) :
    Calls Try.prog 8 #[.string s] w fun e w' => e = .returned (tgV (parE s.data.toList)) ∧ Below w.heap.size w w' := by
  have hpar : parE s.data.toList = (tagOf s.data.toList).map fun t => (false, bs t) := by unfold parE; rw [if_neg h0]
  have hs4 : s.size ≤ 4000000 := by omega
  have HW : Box (pre21 s.data.toList (⟨#[87, 47]⟩ : ByteArray).data.toList = false) := box (by rw [← Bool.not_eq_true]; exact fun e => h0 (pre21_two.mp e))
  have hxz : s.size ≤ 65000 := hs
  have hx4 : s.size ≤ 4000000 := hs4
  by_cases h1 : ∃ r, s.data.toList = 34 :: r
  · have HP : Box (pre21 s.data.toList (⟨#[34]⟩ : ByteArray).data.toList = true) := box (pre21_one.mpr h1)
    obtain ⟨z, hz⟩ : ∃ z, s.extract 1 s.size = z := ⟨_, rfl⟩
    have HZ : Box (s.extract (⟨#[34]⟩ : ByteArray).size s.size = z) := box hz
    have hzz : z.size ≤ 65000 := by rw [← hz]; simp; omega
    have hxl : s.data.toList = 34 :: z.data.toList := by
      obtain ⟨r, hr⟩ := h1
      rw [← hz, ext_drop21, hr]; rfl
    have hpar2 : parE s.data.toList = (tagOf (34 :: z.data.toList)).map fun t => (false, bs t) := by rw [hpar, hxl]
    clear h1 hz hxl
    by_cases h2 : z.data.toList.getLast? = some 34
    · have HL := box h2
      obtain ⟨y, hy⟩ : ∃ y, z.extract 0 (z.size - 1) = y := ⟨_, rfl⟩
      have HY := box hy
      have hyz : y.size ≤ 65536 := by rw [← hy]; simp; omega
      have hyl : z.data.toList.dropLast = y.data.toList := by rw [← hy, ext_last]
      rw [tagOf_cons, hyl] at hpar2
      clear hy hyl
      cases hg : tagT y.data.toList with
      | false =>
        have HB := box hg
        have HE : Box (parE s.data.toList = none) := box (by rw [hpar2, if_neg (fun q => by rw [hg] at q; cases q.2.2)]; rfl)
        clear hg h2
        obtain ⟨⟨r0, r1⟩, ⟨f0, f1⟩⟩ := T2.new (.bool false) (.string ⟨#[]⟩) w 23
        clear hpar h0 hpar2
        go_enter Try.func8, Try.ntmps8
        go_wp2_with fail
        refine (cutPre21_no hs4 (by decide) HW).mono ?_; rintro e w1 ⟨rfl, rfl⟩
        go_wp2_with fail
        refine (cutPre21_yes hx4 (by decide) HP HZ).mono ?_; rintro e w1 ⟨rfl, rfl⟩
        go_wp2_with fail
        refine (cutSuf34q_is hzz HL HY).mono ?_; rintro e w1 ⟨rfl, rfl⟩
        go_wp2_with fail
        refine (isTag_is hyz HB).mono ?_; rintro e w1 ⟨rfl, rfl⟩
        go_wp2
        (try simp only [Exit.inBlock, Exit.then])
        refine bodyPost_ret (v := tgV none) (by rw [results_cell_tmp rfl]; go_simp; rfl) rfl ?_
        exact ⟨by rw [HE.out], by first | exact below_new _ _ | exact set2_below (below_new _ _) (Nat.le_refl _) _ _⟩
      | true =>
        have HB := box hg
        have HE : Box (parE s.data.toList = some (false, y)) := box (by rw [hpar2, if_pos ⟨rfl, h2, hg⟩]; rfl)
        clear hg h2
        obtain ⟨⟨r0, r1⟩, ⟨f0, f1⟩⟩ := T2.new (.bool false) (.string ⟨#[]⟩) w 23
        clear hpar h0 hpar2
        go_enter Try.func8, Try.ntmps8
        go_wp2_with fail
        refine (cutPre21_no hs4 (by decide) HW).mono ?_; rintro e w1 ⟨rfl, rfl⟩
        go_wp2_with fail
        refine (cutPre21_yes hx4 (by decide) HP HZ).mono ?_; rintro e w1 ⟨rfl, rfl⟩
        go_wp2_with fail
        refine (cutSuf34q_is hzz HL HY).mono ?_; rintro e w1 ⟨rfl, rfl⟩
        go_wp2_with fail
        refine (isTag_is hyz HB).mono ?_; rintro e w1 ⟨rfl, rfl⟩
        go_wp2
        (try simp only [Exit.inBlock, Exit.then])
        refine bodyPost_ret (v := tgV (some (false, y))) (by rw [results_cell_tmp rfl]; go_simp; rfl) rfl ?_
        exact ⟨by rw [HE.out], by first | exact below_new _ _ | exact set2_below (below_new _ _) (Nat.le_refl _) _ _⟩
    · have HL := box h2
      have HE : Box (parE s.data.toList = none) := box (by rw [hpar2, tagOf_no2 h2]; rfl)
      clear h2
      obtain ⟨⟨r0, r1⟩, ⟨f0, f1⟩⟩ := T2.new (.bool false) (.string ⟨#[]⟩) w 23
      clear hpar h0 hpar2
      go_enter Try.func8, Try.ntmps8
      go_wp2_with fail
      refine (cutPre21_no hs4 (by decide) HW).mono ?_; rintro e w1 ⟨rfl, rfl⟩
      go_wp2_with fail
      refine (cutPre21_yes hx4 (by decide) HP HZ).mono ?_; rintro e w1 ⟨rfl, rfl⟩
      go_wp2_with fail
      refine (cutSuf34q_no hzz HL).mono ?_; rintro e w1 ⟨rfl, rfl⟩
      go_wp2
      (try simp only [Exit.inBlock, Exit.then])
      refine bodyPost_ret (v := tgV none) (by rw [results_cell_tmp rfl]; go_simp; rfl) rfl ?_
      exact ⟨by rw [HE.out], by first | exact below_new _ _ | exact set2_below (below_new _ _) (Nat.le_refl _) _ _⟩
  · have HP : Box (pre21 s.data.toList (⟨#[34]⟩ : ByteArray).data.toList = false) := box (by rw [← Bool.not_eq_true]; exact fun e => h1 (pre21_one.mp e))
    have HE : Box (parE s.data.toList = none) := box (by
      rw [hpar, tagOf_no1 (fun e => h1 (by
        rcases hl : s.data.toList with _ | ⟨c, r⟩
        · rw [hl] at e; cases e
        · rw [hl] at e; exact ⟨r, by rw [Option.some.inj e]⟩))]; rfl)
    clear h1
    obtain ⟨⟨r0, r1⟩, ⟨f0, f1⟩⟩ := T2.new (.bool false) (.string ⟨#[]⟩) w 23
    clear hpar h0
    go_enter Try.func8, Try.ntmps8
    go_wp2_with fail
    refine (cutPre21_no hs4 (by decide) HW).mono ?_; rintro e w1 ⟨rfl, rfl⟩
    go_wp2_with fail
    refine (cutPre21_no hx4 (by decide) HP).mono ?_; rintro e w1 ⟨rfl, rfl⟩
    go_wp2_with fail
    refine (cutSuf34q_any hxz).mono ?_; rintro e w1 ⟨⟨y3, q3, rfl⟩, rfl⟩
    go_wp2
    (try simp only [Exit.inBlock, Exit.then])
    refine bodyPost_ret (v := tgV none) (by rw [results_cell_tmp rfl]; go_simp; rfl) rfl ?_
    exact ⟨by rw [HE.out], by first | exact below_new _ _ | exact set2_below (below_new _ _) (Nat.le_refl _) _ _⟩
theorem mParE_any (s : ByteArray) (w : World) (hs : s.size ≤ 65000) :
    Calls Try.prog 8 #[.string s] w fun e w' => e = .returned (tgV (parE s.data.toList)) ∧ Below w.heap.size w w' := by
  by_cases h : s.data.toList.take 2 = [87, 47]
  · exact mParE_w s w hs h _ rfl
  · exact mParE_s s w hs h
theorem mParE_is {s t : ByteArray} {b q : Bool} {w : World} (hs : s.size ≤ 65000) (h : Box (tgV (parE s.data.toList) = .tuple #[.agg #[.bool b, .string t], .bool q])) :
    Calls Try.prog 8 #[.string s] w fun e w' => e = .returned (.tuple #[.agg #[.bool b, .string t], .bool q]) ∧ Below w.heap.size w w' :=
  (mParE_any s w hs).mono fun e w' ⟨h1, h2⟩ => ⟨by rw [h1, h.out], h2⟩
theorem mFmtE_any (b : Bool) (t : ByteArray) (w : World) (ht : t.size ≤ 65000) :
    Calls Try.prog 10 #[.agg #[.bool b, .string t]] w fun e w' => e = .returned (.string (bs (fmtL (b, t)))) ∧ Below w.heap.size w w' := by
  have ht6 : t.size ≤ 65536 := by omega
  cases hg : tagT t.data.toList with
  | false =>
    have HG := box hg
    have HV : Box (bs (fmtL (b, t)) = ⟨#[]⟩) := box (by rw [fmt_empty hg]; rfl)
    clear hg
    go_enter Try.func10, Try.ntmps10
    go_wp2_with fail
    refine (isTag_is ht6 HG).mono ?_; rintro e w1 ⟨rfl, rfl⟩
    go_wp2
    go_ret
    exact ⟨by rw [HV.out]; rfl, below_new _ _⟩
  | true =>
    have HG := box hg
    obtain ⟨z1, hz1⟩ : ∃ z : ByteArray, bs (wkE b ++ 34 :: t.data.toList) = z := ⟨_, rfl⟩
    obtain ⟨z2, hz2⟩ : ∃ z : ByteArray, bs (fmtL (b, t)) = z := ⟨_, rfl⟩
    have hl := fmt_len21 (b, t)
    have hlt : t.data.toList.length = t.size := by simp
    have hzs2 : z2.size ≤ 70000 := by rw [← hz2, bs_size]; have : (b, t).2.size = t.size := rfl
                                      omega
    have hzs1 : z1.size ≤ 70000 := by
      rw [← hz1, bs_size, List.length_append, List.length_cons, hlt]
      have : (wkE b).length ≤ 2 := by unfold wkE; split <;> simp
      omega
    have k2 : Box (z1.data.toList ++ [34] = z2.data.toList) := box (by
      rw [← hz1, ← hz2, bs_toList, bs_toList, fmt_some hg]; simp)
    rw [hz2]
    cases b with
    | false =>
      have r1 := add_is (a := ⟨#[34]⟩) (b := t) (z := z1) (box (by rw [← hz1]; rfl)) hzs1
      have r2 := add_is (a := z1) (b := ⟨#[34]⟩) (z := z2) (box k2.out) hzs2
      clear hg hz1 hz2 hl hlt hzs1 hzs2
      go_enter Try.func10, Try.ntmps10
      go_wp2_with fail
      refine (isTag_is ht6 HG).mono ?_; rintro e w1 ⟨rfl, rfl⟩
      go_wp2
      go_ret
      exact ⟨rfl, below_new _ _⟩
    | true =>
      have r1 := add_is (a := ⟨#[87, 47, 34]⟩) (b := t) (z := z1) (box (by rw [← hz1]; rfl)) hzs1
      have r2 := add_is (a := z1) (b := ⟨#[34]⟩) (z := z2) (box k2.out) hzs2
      clear hg hz1 hz2 hl hlt hzs1 hzs2
      go_enter Try.func10, Try.ntmps10
      go_wp2_with fail
      refine (isTag_is ht6 HG).mono ?_; rintro e w1 ⟨rfl, rfl⟩
      go_wp2
      go_ret
      exact ⟨rfl, below_new _ _⟩
theorem mFmtE_is {b : Bool} {t z : ByteArray} {w : World} (ht : t.size ≤ 65000) (h : Box (bs (fmtL (b, t)) = z)) :
    Calls Try.prog 10 #[.agg #[.bool b, .string t]] w fun e w' => e = .returned (.string z) ∧ Below w.heap.size w w' :=
  (mFmtE_any b t w ht).mono fun e w' ⟨h1, h2⟩ => ⟨by rw [h1, h.out], h2⟩
theorem mWeakE_any (b c : Bool) (t u : ByteArray) (w : World) :
    Calls Try.prog 21 #[.agg #[.bool b, .string t], .agg #[.bool c, .string u]] w fun e w' => e = .returned (.bool (weakE (b, t) (c, u))) ∧ Below w.heap.size w w' := by
  obtain ⟨q, hq⟩ : ∃ q, (t.toList == u.toList) = q := ⟨_, rfl⟩
  rw [weak_beq, hq]
  go_enter Try.func21, Try.ntmps21
  go_wp2
  go_ret
  exact ⟨rfl, (below_new _ _).alloc (below_new _ _).size _⟩
theorem mWeakE_is {b c q : Bool} {t u : ByteArray} {w : World} (h : Box (weakE (b, t) (c, u) = q)) :
    Calls Try.prog 21 #[.agg #[.bool b, .string t], .agg #[.bool c, .string u]] w fun e w' => e = .returned (.bool q) ∧ Below w.heap.size w w' :=
  (mWeakE_any b c t u w).mono fun e w' ⟨h1, h2⟩ => ⟨by rw [h1, h.out], h2⟩
theorem mStrongE_any (b c : Bool) (t u : ByteArray) (w : World) :
    Calls Try.prog 19 #[.agg #[.bool b, .string t], .agg #[.bool c, .string u]] w fun e w' => e = .returned (.bool (strongE (b, t) (c, u))) ∧ Below w.heap.size w w' := by
  obtain ⟨q, hq⟩ : ∃ q, weakE (b, t) (c, u) = q := ⟨_, rfl⟩
  have HQ := box hq
  unfold strongE
  rw [hq]
  clear hq
  have B0 := box ((below_new w (.cells #[.bool b, .string t] 23)).alloc (below_new w _).size (.cells #[.bool c, .string u] 23))
  have C0 := box ((T2.new (.bool b) (.string t) w 23).next (below_new _ (.cells #[.bool c, .string u] 23)))
  have D0 := box (T2.new (.bool c) (.string u) (w.alloc (.cells #[.bool b, .string t] 23)) 23)
  rw [show (w.alloc (.cells #[.bool b, .string t] 23)).heap.size = w.heap.size + 1 from by simp] at D0
  cases q <;> cases b <;> cases c
  all_goals
    go_enter Try.func19, Try.ntmps19
    go_wp2_with fail
    refine (mWeakE_is HQ).mono ?_; rintro e w1 ⟨rfl, hb1⟩
    have B1 := box (B0.out.trans (hb1.mono B0.out.size))
    obtain ⟨⟨r0, r1⟩, _⟩ := C0.out.next hb1
    obtain ⟨⟨s0, s1⟩, _⟩ := D0.out.next hb1
    clear hb1
    go_wp2
    go_ret
    exact ⟨rfl, B1.out⟩

end Go.Proofs.Ytchbhpfloinbdaa.Asc
