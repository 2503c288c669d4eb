/- The contracts of package crlf: CutEnd, CutLine. -/
import Derived.Test.YthfhoacflkbhhaaChkRef3
import Derived.Test.YthfhoacflkbhhaaChkAny
import Derived.Test.YthfhoacflkbhhaaTarHas
set_option linter.unusedVariables false
set_option linter.unusedSimpArgs false
namespace Go.Proofs.Ythfhoacflkbhhaa.Asc
open Go.RowKit

theorem sHasPrefix_big (s p : ByteArray) (w : World) (hs : s.size ≤ 4000000) (hp : p.size ≤ 65536) :
    Calls Try.prog 61 #[.string s, .string p] w fun e w' => e = .returned (.bool (preB s.data.toList p.data.toList)) ∧ w = w' := by
  have hz : s.data.toList.length = s.size := by simp
  have hz2 : p.data.toList.length = p.size := by simp
  by_cases h : p.size ≤ s.size
  · have HE : Box (preB s.data.toList p.data.toList = ((s.extract 0 p.size).toList == p.toList)) := box (by
      rw [pre_take, toList_data, toList_data, ext_bs, List.drop_zero, hz2]; rfl)
    have hi : (p.size : Int) ≤ (s.size : Int) := by omega
    clear hz hz2
    obtain ⟨b, hb⟩ : ∃ b, ((s.extract 0 p.size).toList == p.toList) = b := ⟨_, rfl⟩
    rw [hb] at HE
    go_enter Try.func61, Try.ntmps61
    go_wp2
    go_ret
    exact ⟨ret_bool HE.out.symm, rfl⟩
  · have HE : Box (preB s.data.toList p.data.toList = false) := box (by
      rw [pre_take, beq_eq_false_iff_ne]
      intro e
      have := congrArg List.length e
      rw [List.length_take] at this
      omega)
    have hi : (s.size : Int) < (p.size : Int) := by omega
    clear hz hz2
    go_enter Try.func61, Try.ntmps61
    go_wp2
    go_ret
    exact ⟨ret_bool HE.out.symm, rfl⟩
theorem sHasPre_is {s p : ByteArray} {b : Bool} {w : World} (hs : s.size ≤ 4000000) (hp : p.size ≤ 65536) (h : Box (preB s.data.toList p.data.toList = b)) :
    Calls Try.prog 61 #[.string s, .string p] w fun e w' => e = .returned (.bool b) ∧ w = w' :=
  (sHasPrefix_big s p w hs hp).mono fun e w' ⟨h1, h2⟩ => ⟨by rw [h1, h.out], h2⟩
def cutPreV (s p : ByteArray) : Value := if preB s.data.toList p.data.toList = true then .tuple #[.string (bs (s.data.toList.drop p.size)), .bool true] else .tuple #[.string s, .bool false]
theorem sCutPrefix_any (s p : ByteArray) (w : World) (hs : s.size ≤ 4000000) (hp : p.size ≤ 65536) :
    Calls Try.prog 54 #[.string s, .string p] w fun e w' => e = .returned (cutPreV s p) ∧ w = w' := by
  rcases h : preB s.data.toList p.data.toList with _ | _
  · have HE : Box (cutPreV s p = .tuple #[.string s, .bool false]) := box (by unfold cutPreV; rw [h, if_neg (by simp)])
    have HB := box h
    clear h
    go_enter Try.func54, Try.ntmps54
    go_wp2_with fail
    refine (sHasPre_is hs hp HB).mono ?_; rintro e w1 ⟨rfl, rfl⟩
    go_wp2
    go_ret2
    exact ⟨by rw [HE.out]; rfl, rfl⟩
  · have HE : Box (cutPreV s p = .tuple #[.string (s.extract p.size s.size), .bool true]) := box (by
      unfold cutPreV; rw [h, if_pos rfl, ext_bs, List.take_of_length_le (by simp)])
    have hle : p.size ≤ s.size := by
      rw [pre_take, beq_iff_eq] at h
      have := congrArg List.length h
      rw [List.length_take] at this
      simp at this; omega
    have hli : (p.size : Int) ≤ (s.size : Int) := by omega
    have HB := box h
    clear h
    go_enter Try.func54, Try.ntmps54
    go_wp2_with fail
    refine (sHasPre_is hs hp HB).mono ?_; rintro e w1 ⟨rfl, rfl⟩
    go_wp2
    go_ret2
    exact ⟨by rw [HE.out]; rfl, rfl⟩
theorem CutPrefix_any (s p : ByteArray) (w : World) (hs : s.size ≤ 4000000) (hp : p.size ≤ 65536) :
    Calls Try.prog 42 #[.string s, .string p] w fun e w' => e = .returned (cutPreV s p) ∧ w = w' := by
  obtain ⟨x, b, hx⟩ : ∃ x b, cutPreV s p = .tuple #[.string x, .bool b] := by unfold cutPreV; split <;> exact ⟨_, _, rfl⟩
  have HX := box hx
  clear hx
  go_enter Try.func42, Try.ntmps42
  go_wp2_with fail
  refine (sCutPrefix_any s p _ hs hp).mono ?_; rintro e w1 ⟨rfl, rfl⟩; rw [HX.out]
  go_wp2
  go_ret2
  exact ⟨by rw [HX.out]; rfl, rfl⟩
theorem CutPre_is {s p : ByteArray} {v : Value} {w : World} (hs : s.size ≤ 4000000) (hp : p.size ≤ 65536) (h : Box (cutPreV s p = v)) :
    Calls Try.prog 42 #[.string s, .string p] w fun e w' => e = .returned v ∧ w = w' :=
  (CutPrefix_any s p w hs hp).mono fun e w' ⟨h1, h2⟩ => ⟨by rw [h1, h.out], h2⟩

/-- what follows the CRLF at the beginning, or an error -/
def endL : List UInt8 → Int ⊕ List UInt8
  | [] => .inl 2
  | [c] => if c = 13 then .inl 2 else .inl 1
  | c :: d :: r => if c = 13 ∧ d = 10 then .inr r else .inl 1
def endV : Int ⊕ List UInt8 → Value
  | .inl e => .tuple #[.string ⟨#[]⟩, .int .i64 e]
  | .inr r => .tuple #[.string (bs r), .int .i64 0]
theorem cEnd_any (s : ByteArray) (w : World) (hs : s.size ≤ 4000000) :
    Calls Try.prog 32 #[.string s] w fun e w' => e = .returned (endV (endL s.data.toList)) ∧ w = w' := by
  have hpz : (⟨#[13, 10]⟩ : ByteArray).size ≤ 65536 := by decide
  by_cases hf : ∃ r, s.data.toList = 13 :: 10 :: r
  · obtain ⟨r, hr⟩ := hf
    have HE : Box (endV (endL s.data.toList) = .tuple #[.string (bs r), .int .i64 0]) := box (by rw [hr]; simp [endL, endV])
    have HP : Box (cutPreV s ⟨#[13, 10]⟩ = .tuple #[.string (bs r), .bool true]) := box (by
      unfold cutPreV
      rw [hr, if_pos (by simp [preB])]; rfl)
    clear hr
    go_enter Try.func32, Try.ntmps32
    go_wp2_with fail
    refine (CutPre_is hs hpz HP).mono ?_; rintro e w1 ⟨rfl, rfl⟩
    go_wp2
    go_ret2
    exact ⟨by rw [HE.out]; rfl, rfl⟩
  · have HP : Box (cutPreV s ⟨#[13, 10]⟩ = .tuple #[.string s, .bool false]) := box (by
      unfold cutPreV
      rw [if_neg]
      intro h
      rw [pre_take, beq_iff_eq] at h
      refine hf ⟨s.data.toList.drop 2, ?_⟩
      have := List.take_append_drop 2 s.data.toList
      have h2 : s.data.toList.take 2 = [13, 10] := h
      rw [h2] at this
      exact this.symm)
    by_cases h0 : s.data.toList = []
    · have HE : Box (endV (endL s.data.toList) = .tuple #[.string ⟨#[]⟩, .int .i64 2]) := box (by rw [h0]; rfl)
      have hem : s.toList.isEmpty = true := by rw [toList_data, h0]; rfl
      clear h0 hf
      go_enter Try.func32, Try.ntmps32
      go_wp2_with fail
      refine (CutPre_is hs hpz HP).mono ?_; rintro e w1 ⟨rfl, rfl⟩
      go_wp2
      go_ret2
      exact ⟨by rw [HE.out]; rfl, rfl⟩
    · have hem : s.toList.isEmpty = false := by rw [toList_data]; cases h : s.data.toList <;> simp_all
      by_cases h1 : s.data.toList = [13]
      · have HE : Box (endV (endL s.data.toList) = .tuple #[.string ⟨#[]⟩, .int .i64 2]) := box (by rw [h1]; rfl)
        have h13 : (s.toList == [13]) = true := by rw [toList_data, h1]; rfl
        clear h0 h1 hf
        go_enter Try.func32, Try.ntmps32
        go_wp2_with fail
        refine (CutPre_is hs hpz HP).mono ?_; rintro e w1 ⟨rfl, rfl⟩
        go_wp2
        go_ret2
        exact ⟨by rw [HE.out]; rfl, rfl⟩
      · have HE : Box (endV (endL s.data.toList) = .tuple #[.string ⟨#[]⟩, .int .i64 1]) := box (by
          rcases hl : s.data.toList with _ | ⟨c, _ | ⟨d, r⟩⟩
          · exact absurd hl h0
          · have : c ≠ 13 := fun e => h1 (by rw [hl, e])
            simp [endL, this, endV]
          · have : ¬ (c = 13 ∧ d = 10) := fun e => hf ⟨r, by rw [hl, e.1, e.2]⟩
            simp only [endL, if_neg this, endV])
        have h13 : (s.toList == [13]) = false := by rw [toList_data, beq_eq_false_iff_ne]; exact h1
        clear h0 h1 hf
        go_enter Try.func32, Try.ntmps32
        go_wp2_with fail
        refine (CutPre_is hs hpz HP).mono ?_; rintro e w1 ⟨rfl, rfl⟩
        go_wp2
        go_ret2
        exact ⟨by rw [HE.out]; rfl, rfl⟩
theorem cEnd_is {s : ByteArray} {o : Int ⊕ List UInt8} {w : World} (hs : s.size ≤ 4000000) (h : Box (endL s.data.toList = o)) :
    Calls Try.prog 32 #[.string s] w fun e w' => e = .returned (endV o) ∧ w = w' :=
  (cEnd_any s w hs).mono fun e w' ⟨h1, h2⟩ => ⟨by rw [h1, h.out], h2⟩

/-- a line by where the first byte of an end stands -/
theorem next_end (l : List UInt8) : nextL l = if 2000 < (l.takeWhile eolB).length then .inl 4 else match endL (l.dropWhile eolB) with | .inl e => .inl e | .inr r => .inr (l.takeWhile eolB, r) := by
  unfold nextL
  split
  · rfl
  · have hd := List.head?_dropWhile_not (p := eolB) (l := l)
    rcases hq : l.dropWhile eolB with _ | ⟨c, _ | ⟨d, r⟩⟩
    · rfl
    · rw [hq] at hd
      have hc : c = 13 ∨ c = 10 := eol_not (by simpa using hd)
      rcases hc with rfl | rfl <;> rfl
    · rw [hq] at hd
      have hc : c = 13 ∨ c = 10 := eol_not (by simpa using hd)
      rcases hc with rfl | rfl
      · by_cases e : d = 10
        · simp [endL, e]
        · simp [endL, e]
      · simp [endL]
theorem eol_two (c : UInt8) : eolB c = !(crlf2.contains c) := by
  have key : ∀ x : Fin 256, eolB (UInt8.ofNat x.1) = !(crlf2.contains (UInt8.ofNat x.1)) := by decide +kernel
  have := key ⟨c.toNat, c.toNat_lt⟩
  simp only [UInt8.ofNat_toNat] at this
  exact this
/-- the place of the first end of a line, or -1 -/
theorem eol_at (l : List UInt8) : (Lib.indexAny l crlf2 = -1 ∧ l.takeWhile eolB = l) ∨ ∃ k : Nat, Lib.indexAny l crlf2 = k ∧ k < l.length ∧ (l.takeWhile eolB).length = k := by
  obtain ⟨h1, h2⟩ := any_while_crlf (l := l) eol_two
  have hge := Lib.indexAny_ge crlf2 l
  by_cases h : Lib.indexAny l crlf2 = -1
  · exact .inl ⟨h, h1 h⟩
  · obtain ⟨k, hk⟩ : ∃ k : Nat, Lib.indexAny l crlf2 = k := ⟨(Lib.indexAny l crlf2).toNat, by omega⟩
    obtain ⟨h3, h4⟩ := h2 k hk
    exact .inr ⟨k, hk, h4, h3⟩
def lineV : Int ⊕ (List UInt8 × List UInt8) → Value
  | .inl e => .tuple #[.string ⟨#[]⟩, .string ⟨#[]⟩, .int .i64 e]
  | .inr (t, r) => .tuple #[.string (bs t), .string (bs r), .int .i64 0]

set_option maxHeartbeats 2000000 in
theorem cLine_any (s : ByteArray) (w : World) (hs : s.size ≤ 4000000) :
    Calls Try.prog 18 #[.string s] w fun e w' => e = .returned (lineV (nextL s.data.toList)) ∧ Below w.heap.size w w' := by
  have hz : s.data.toList.length = s.size := by simp
  obtain ⟨k, x, hk, hx, hwl, hcl⟩ : ∃ (k : Nat) (x : Int), k ≤ s.size ∧ Lib.indexAny s.data.toList crlf2 = x ∧ (s.data.toList.takeWhile eolB).length = k ∧ ((x < 0 ∧ k = s.size) ∨ (0 ≤ x ∧ x = k)) := by
    rcases eol_at s.data.toList with ⟨h1, h2⟩ | ⟨k, h1, h2, h3⟩
    · exact ⟨s.size, -1, Nat.le_refl _, h1, by rw [h2, hz], .inl ⟨by omega, rfl⟩⟩
    · exact ⟨k, k, by omega, h1, h3, .inr ⟨by omega, rfl⟩⟩
  have HX := box hx
  obtain ⟨w1, w2⟩ := take_while2 (p := eolB) s.data.toList
  rw [hwl] at w1 w2
  have hki : (k : Int) ≤ (s.size : Int) := by omega
  have HSL : Box ((s.extract k s.size).size ≤ 4000000) := box (by rw [ByteArray.size_extract]; omega)
  have HD : Box ((s.extract k s.size).data.toList = s.data.toList.dropWhile eolB) := box (by rw [ext_bs, List.take_of_length_le (by simp), ← w2]; rfl)
  have HT : Box (s.extract 0 k = bs (s.data.toList.takeWhile eolB)) := box (by rw [ext_bs, List.drop_zero, w1])
  have hN := next_end s.data.toList
  rw [hwl] at hN
  clear hx hwl w1 w2 hz
  by_cases hl : 2000 < k
  · have HE : Box (lineV (nextL s.data.toList) = .tuple #[.string ⟨#[]⟩, .string ⟨#[]⟩, .int .i64 4]) := box (by rw [hN, if_pos hl]; rfl)
    have hli : (2000 : Int) < (k : Int) := by omega
    clear hN HT HD HSL
    rcases hcl with ⟨hx0, rfl⟩ | ⟨hx0, rfl⟩
    all_goals
      go_enter Try.func18, Try.ntmps18
      go_wp2_with fail
      refine (IndexAny_any_crlf s _ hs).mono ?_; rintro e w1 ⟨rfl, hb1⟩; rw [HX.out]
      go_wp2
      go_ret3
      exact ⟨by rw [HE.out]; rfl, hb1⟩
  · rw [if_neg hl] at hN
    have hli : ¬ (2000 : Int) < (k : Int) := by omega
    rcases hq : endL (s.data.toList.dropWhile eolB) with e0 | r
    · have HE : Box (lineV (nextL s.data.toList) = .tuple #[.string ⟨#[]⟩, .string ⟨#[]⟩, .int .i64 e0]) := box (by rw [hN, hq]; rfl)
      have HQ : Box (endL (s.extract k s.size).data.toList = .inl e0) := box (by rw [HD.out, hq])
      have he0 : e0 = 1 ∨ e0 = 2 := by
        unfold endL at hq
        split at hq
        · cases hq; exact .inr rfl
        · split at hq <;> cases hq <;> simp
        · split at hq <;> cases hq; exact .inl rfl
      clear hN HT HD hq hl
      rcases hcl with ⟨hx0, rfl⟩ | ⟨hx0, rfl⟩
      · have hee : s.extract s.size s.size = ByteArray.empty := by
          rw [ext_bs, List.drop_of_length_le (by simp)]; rfl
        rw [hee] at HQ
        have HZ : ByteArray.empty.size ≤ 4000000 := by decide
        clear HSL hee
        rcases he0 with rfl | rfl
        all_goals
          go_enter Try.func18, Try.ntmps18
          go_wp2_with fail
          refine (IndexAny_any_crlf s _ hs).mono ?_; rintro e w1 ⟨rfl, hb1⟩; rw [HX.out]
          go_wp2_with fail
          refine (cEnd_is HZ HQ).mono ?_; rintro e w2 ⟨rfl, rfl⟩; unfold endV
          go_wp2
          go_ret3
          exact ⟨by rw [HE.out]; rfl, hb1⟩
      · rcases he0 with rfl | rfl
        all_goals
          go_enter Try.func18, Try.ntmps18
          go_wp2_with fail
          refine (IndexAny_any_crlf s _ hs).mono ?_; rintro e w1 ⟨rfl, hb1⟩; rw [HX.out]
          go_wp2_with fail
          refine (cEnd_is HSL.out HQ).mono ?_; rintro e w2 ⟨rfl, rfl⟩; unfold endV
          go_wp2
          go_ret3
          exact ⟨by rw [HE.out]; rfl, hb1⟩
    · have HE : Box (lineV (nextL s.data.toList) = .tuple #[.string (s.extract 0 k), .string (bs r), .int .i64 0]) := box (by rw [hN, hq, HT.out]; rfl)
      have HQ : Box (endL (s.extract k s.size).data.toList = .inr r) := box (by rw [HD.out, hq])
      rcases hcl with ⟨hx0, rfl⟩ | ⟨hx0, rfl⟩
      · exfalso
        have : (s.extract s.size s.size).data.toList = [] := by
          rw [ext_bs, List.drop_of_length_le (by simp)]; rfl
        have := HQ.out
        simp_all [endL]
      · clear hN HT HD hq hl
        go_enter Try.func18, Try.ntmps18
        go_wp2_with fail
        refine (IndexAny_any_crlf s _ hs).mono ?_; rintro e w1 ⟨rfl, hb1⟩; rw [HX.out]
        go_wp2_with fail
        refine (cEnd_is HSL.out HQ).mono ?_; rintro e w2 ⟨rfl, rfl⟩; unfold endV
        go_wp2
        go_ret3
        exact ⟨by rw [HE.out]; rfl, hb1⟩

end Go.Proofs.Ythfhoacflkbhhaa.Asc
