/- Merged texts: ChkEnd ChkClo ChkPar ChkSkip ChkMDec BytT ChkSpec2 LstSpec. -/
import Derived.Test.YtjabcfabenobiaaGreatM01
import Derived.Test.YtjabcfabenobiaaGreatM03
import Derived.Test.YtjabcfabenobiaaGreatM04
import Derived.Test.YtjabcfabenobiaaGreatM05
import Derived.Laws.CopyRow
import Derived.Laws.IdiomStrings
import Derived.Laws.Tables
import Derived.Lib.QuoteBits
set_option linter.unusedVariables false
set_option linter.unusedSimpArgs false
set_option maxRecDepth 100000
namespace Go.Proofs.YtjabcfabenobiaaGreat.Asc
section
open Go.RowKit
theorem sHasPrefix_big (s p : ByteArray) (w : World) (hs : s.size ≤ 4000000) (hp : p.size ≤ 65536) :
    Calls Tryz.prog 139 #[.string s, .string p] w fun e w' => e = .returned (.bool (preB s.data.toList p.data.toList)) ∧ w = w' := by
  have hz : s.data.toList.length = s.size := by simp
  have hz2 : p.data.toList.length = p.size := by simp
  by_cases h : p.size ≤ s.size
  · have HE : Box (preB s.data.toList p.data.toList = ((s.extract 0 p.size).toList == p.toList)) := box (by
      rw [pre_take, toList_data, toList_data, ext_bs, List.drop_zero, hz2]; rfl)
    have hi : (p.size : Int) ≤ (s.size : Int) := by omega
    clear hz hz2
    obtain ⟨b, hb⟩ : ∃ b, ((s.extract 0 p.size).toList == p.toList) = b := ⟨_, rfl⟩
    rw [hb] at HE
    go_enter Tryz.func139, Tryz.ntmps139
    go_wp2
    go_ret
    exact ⟨ret_bool HE.out.symm, rfl⟩
  · have HE : Box (preB s.data.toList p.data.toList = false) := box (by
      rw [pre_take, beq_eq_false_iff_ne]
      intro e
      have := congrArg List.length e
      rw [List.length_take] at this
      omega)
    have hi : (s.size : Int) < (p.size : Int) := by omega
    clear hz hz2
    go_enter Tryz.func139, Tryz.ntmps139
    go_wp2
    go_ret
    exact ⟨ret_bool HE.out.symm, rfl⟩
theorem sHasPre_is {s p : ByteArray} {b : Bool} {w : World} (hs : s.size ≤ 4000000) (hp : p.size ≤ 65536) (h : Box (preB s.data.toList p.data.toList = b)) :
    Calls Tryz.prog 139 #[.string s, .string p] w fun e w' => e = .returned (.bool b) ∧ w = w' :=
  (sHasPrefix_big s p w hs hp).mono fun e w' ⟨h1, h2⟩ => ⟨by rw [h1, h.out], h2⟩
def cutPreV (s p : ByteArray) : Value := if preB s.data.toList p.data.toList = true then .tuple #[.string (bs (s.data.toList.drop p.size)), .bool true] else .tuple #[.string s, .bool false]
theorem sCutPrefix_any (s p : ByteArray) (w : World) (hs : s.size ≤ 4000000) (hp : p.size ≤ 65536) :
    Calls Tryz.prog 135 #[.string s, .string p] w fun e w' => e = .returned (cutPreV s p) ∧ w = w' := by
  rcases h : preB s.data.toList p.data.toList with _ | _
  · have HE : Box (cutPreV s p = .tuple #[.string s, .bool false]) := box (by unfold cutPreV; rw [h, if_neg (by simp)])
    have HB := box h
    clear h
    go_enter Tryz.func135, Tryz.ntmps135
    go_wp2_with fail
    refine (sHasPre_is hs hp HB).mono ?_; rintro e w1 ⟨rfl, rfl⟩
    go_wp2
    go_ret2
    exact ⟨by rw [HE.out]; rfl, rfl⟩
  · have HE : Box (cutPreV s p = .tuple #[.string (s.extract p.size s.size), .bool true]) := box (by
      unfold cutPreV; rw [h, if_pos rfl, ext_bs, List.take_of_length_le (by simp)])
    have hle : p.size ≤ s.size := by
      rw [pre_take, beq_iff_eq] at h
      have := congrArg List.length h
      rw [List.length_take] at this
      simp at this; omega
    have hli : (p.size : Int) ≤ (s.size : Int) := by omega
    have HB := box h
    clear h
    go_enter Tryz.func135, Tryz.ntmps135
    go_wp2_with fail
    refine (sHasPre_is hs hp HB).mono ?_; rintro e w1 ⟨rfl, rfl⟩
    go_wp2
    go_ret2
    exact ⟨by rw [HE.out]; rfl, rfl⟩
theorem CutPrefix_any (s p : ByteArray) (w : World) (hs : s.size ≤ 4000000) (hp : p.size ≤ 65536) :
    Calls Tryz.prog 125 #[.string s, .string p] w fun e w' => e = .returned (cutPreV s p) ∧ w = w' := by
  obtain ⟨x, b, hx⟩ : ∃ x b, cutPreV s p = .tuple #[.string x, .bool b] := by unfold cutPreV; split <;> exact ⟨_, _, rfl⟩
  have HX := box hx
  clear hx
  go_enter Tryz.func125, Tryz.ntmps125
  go_wp2_with fail
  refine (sCutPrefix_any s p _ hs hp).mono ?_; rintro e w1 ⟨rfl, rfl⟩; rw [HX.out]
  go_wp2
  go_ret2
  exact ⟨by rw [HX.out]; rfl, rfl⟩
theorem CutPre_is {s p : ByteArray} {v : Value} {w : World} (hs : s.size ≤ 4000000) (hp : p.size ≤ 65536) (h : Box (cutPreV s p = v)) :
    Calls Tryz.prog 125 #[.string s, .string p] w fun e w' => e = .returned v ∧ w = w' :=
  (CutPrefix_any s p w hs hp).mono fun e w' ⟨h1, h2⟩ => ⟨by rw [h1, h.out], h2⟩
/-- what follows the CRLF at the beginning, or an error -/
def endL : List UInt8 → Int ⊕ List UInt8
  | [] => .inl 2
  | [c] => if c = 13 then .inl 2 else .inl 1
  | c :: d :: r => if c = 13 ∧ d = 10 then .inr r else .inl 1
def endV : Int ⊕ List UInt8 → Value
  | .inl e => .tuple #[.string ⟨#[]⟩, .int .i64 e]
  | .inr r => .tuple #[.string (bs r), .int .i64 0]
theorem cEnd_any (s : ByteArray) (w : World) (hs : s.size ≤ 4000000) :
    Calls Tryz.prog 106 #[.string s] w fun e w' => e = .returned (endV (endL s.data.toList)) ∧ w = w' := by
  have hpz : (⟨#[13, 10]⟩ : ByteArray).size ≤ 65536 := by decide
  by_cases hf : ∃ r, s.data.toList = 13 :: 10 :: r
  · obtain ⟨r, hr⟩ := hf
    have HE : Box (endV (endL s.data.toList) = .tuple #[.string (bs r), .int .i64 0]) := box (by rw [hr]; simp [endL, endV])
    have HP : Box (cutPreV s ⟨#[13, 10]⟩ = .tuple #[.string (bs r), .bool true]) := box (by
      unfold cutPreV
      rw [hr, if_pos (by simp [preB])]; rfl)
    clear hr
    go_enter Tryz.func106, Tryz.ntmps106
    go_wp2_with fail
    refine (CutPre_is hs hpz HP).mono ?_; rintro e w1 ⟨rfl, rfl⟩
    go_wp2
    go_ret2
    exact ⟨by rw [HE.out]; rfl, rfl⟩
  · have HP : Box (cutPreV s ⟨#[13, 10]⟩ = .tuple #[.string s, .bool false]) := box (by
      unfold cutPreV
      rw [if_neg]
      intro h
      rw [pre_take, beq_iff_eq] at h
      refine hf ⟨s.data.toList.drop 2, ?_⟩
      have := List.take_append_drop 2 s.data.toList
      have h2 : s.data.toList.take 2 = [13, 10] := h
      rw [h2] at this
      exact this.symm)
    by_cases h0 : s.data.toList = []
    · have HE : Box (endV (endL s.data.toList) = .tuple #[.string ⟨#[]⟩, .int .i64 2]) := box (by rw [h0]; rfl)
      have hem : s.toList.isEmpty = true := by rw [toList_data, h0]; rfl
      clear h0 hf
      go_enter Tryz.func106, Tryz.ntmps106
      go_wp2_with fail
      refine (CutPre_is hs hpz HP).mono ?_; rintro e w1 ⟨rfl, rfl⟩
      go_wp2
      go_ret2
      exact ⟨by rw [HE.out]; rfl, rfl⟩
    · have hem : s.toList.isEmpty = false := by rw [toList_data]; cases h : s.data.toList <;> simp_all
      by_cases h1 : s.data.toList = [13]
      · have HE : Box (endV (endL s.data.toList) = .tuple #[.string ⟨#[]⟩, .int .i64 2]) := box (by rw [h1]; rfl)
        have h13 : (s.toList == [13]) = true := by rw [toList_data, h1]; rfl
        clear h0 h1 hf
        go_enter Tryz.func106, Tryz.ntmps106
        go_wp2_with fail
        refine (CutPre_is hs hpz HP).mono ?_; rintro e w1 ⟨rfl, rfl⟩
        go_wp2
        go_ret2
        exact ⟨by rw [HE.out]; rfl, rfl⟩
      · have HE : Box (endV (endL s.data.toList) = .tuple #[.string ⟨#[]⟩, .int .i64 1]) := box (by
          rcases hl : s.data.toList with _ | ⟨c, _ | ⟨d, r⟩⟩
          · exact absurd hl h0
          · have : c ≠ 13 := fun e => h1 (by rw [hl, e])
            simp [endL, this, endV]
          · have : ¬ (c = 13 ∧ d = 10) := fun e => hf ⟨r, by rw [hl, e.1, e.2]⟩
            simp only [endL, if_neg this, endV])
        have h13 : (s.toList == [13]) = false := by rw [toList_data, beq_eq_false_iff_ne]; exact h1
        clear h0 h1 hf
        go_enter Tryz.func106, Tryz.ntmps106
        go_wp2_with fail
        refine (CutPre_is hs hpz HP).mono ?_; rintro e w1 ⟨rfl, rfl⟩
        go_wp2
        go_ret2
        exact ⟨by rw [HE.out]; rfl, rfl⟩
theorem cEnd_is {s : ByteArray} {o : Int ⊕ List UInt8} {w : World} (hs : s.size ≤ 4000000) (h : Box (endL s.data.toList = o)) :
    Calls Tryz.prog 106 #[.string s] w fun e w' => e = .returned (endV o) ∧ w = w' :=
  (cEnd_any s w hs).mono fun e w' ⟨h1, h2⟩ => ⟨by rw [h1, h.out], h2⟩
/-- a line by where the first byte of an end stands -/
theorem next_end (l : List UInt8) : nextL l = if 2000 < (l.takeWhile eolB).length then .inl 4 else match endL (l.dropWhile eolB) with | .inl e => .inl e | .inr r => .inr (l.takeWhile eolB, r) := by
  unfold nextL
  split
  · rfl
  · have hd := List.head?_dropWhile_not (p := eolB) (l := l)
    rcases hq : l.dropWhile eolB with _ | ⟨c, _ | ⟨d, r⟩⟩
    · rfl
    · rw [hq] at hd
      have hc : c = 13 ∨ c = 10 := eol_not (by simpa using hd)
      rcases hc with rfl | rfl <;> rfl
    · rw [hq] at hd
      have hc : c = 13 ∨ c = 10 := eol_not (by simpa using hd)
      rcases hc with rfl | rfl
      · by_cases e : d = 10
        · simp [endL, e]
        · simp [endL, e]
      · simp [endL]
theorem eol_two (c : UInt8) : eolB c = !(crlf2.contains c) := by
  have key : ∀ x : Fin 256, eolB (UInt8.ofNat x.1) = !(crlf2.contains (UInt8.ofNat x.1)) := by decide +kernel
  have := key ⟨c.toNat, c.toNat_lt⟩
  simp only [UInt8.ofNat_toNat] at this
  exact this
/-- the place of the first end of a line, or -1 -/
theorem eol_at (l : List UInt8) : (Lib.indexAny l crlf2 = -1 ∧ l.takeWhile eolB = l) ∨ ∃ k : Nat, Lib.indexAny l crlf2 = k ∧ k < l.length ∧ (l.takeWhile eolB).length = k := by
  obtain ⟨h1, h2⟩ := any_while_crlf (l := l) eol_two
  have hge := Lib.indexAny_ge crlf2 l
  by_cases h : Lib.indexAny l crlf2 = -1
  · exact .inl ⟨h, h1 h⟩
  · obtain ⟨k, hk⟩ : ∃ k : Nat, Lib.indexAny l crlf2 = k := ⟨(Lib.indexAny l crlf2).toNat, by omega⟩
    obtain ⟨h3, h4⟩ := h2 k hk
    exact .inr ⟨k, hk, h4, h3⟩
def lineV : Int ⊕ (List UInt8 × List UInt8) → Value
  | .inl e => .tuple #[.string ⟨#[]⟩, .string ⟨#[]⟩, .int .i64 e]
  | .inr (t, r) => .tuple #[.string (bs t), .string (bs r), .int .i64 0]
set_option maxHeartbeats 2000000 in
theorem cLine_any (s : ByteArray) (w : World) (hs : s.size ≤ 4000000) :
    Calls Tryz.prog 89 #[.string s] w fun e w' => e = .returned (lineV (nextL s.data.toList)) ∧ Below w.heap.size w w' := by
  have hz : s.data.toList.length = s.size := by simp
  obtain ⟨k, x, hk, hx, hwl, hcl⟩ : ∃ (k : Nat) (x : Int), k ≤ s.size ∧ Lib.indexAny s.data.toList crlf2 = x ∧ (s.data.toList.takeWhile eolB).length = k ∧ ((x < 0 ∧ k = s.size) ∨ (0 ≤ x ∧ x = k)) := by
    rcases eol_at s.data.toList with ⟨h1, h2⟩ | ⟨k, h1, h2, h3⟩
    · exact ⟨s.size, -1, Nat.le_refl _, h1, by rw [h2, hz], .inl ⟨by omega, rfl⟩⟩
    · exact ⟨k, k, by omega, h1, h3, .inr ⟨by omega, rfl⟩⟩
  have HX := box hx
  obtain ⟨w1, w2⟩ := take_while2 (p := eolB) s.data.toList
  rw [hwl] at w1 w2
  have hki : (k : Int) ≤ (s.size : Int) := by omega
  have HSL : Box ((s.extract k s.size).size ≤ 4000000) := box (by rw [ByteArray.size_extract]; omega)
  have HD : Box ((s.extract k s.size).data.toList = s.data.toList.dropWhile eolB) := box (by rw [ext_bs, List.take_of_length_le (by simp), ← w2]; rfl)
  have HT : Box (s.extract 0 k = bs (s.data.toList.takeWhile eolB)) := box (by rw [ext_bs, List.drop_zero, w1])
  have hN := next_end s.data.toList
  rw [hwl] at hN
  clear hx hwl w1 w2 hz
  by_cases hl : 2000 < k
  · have HE : Box (lineV (nextL s.data.toList) = .tuple #[.string ⟨#[]⟩, .string ⟨#[]⟩, .int .i64 4]) := box (by rw [hN, if_pos hl]; rfl)
    have hli : (2000 : Int) < (k : Int) := by omega
    clear hN HT HD HSL
    rcases hcl with ⟨hx0, rfl⟩ | ⟨hx0, rfl⟩
    all_goals
      go_enter Tryz.func89, Tryz.ntmps89
      go_wp2_with fail
      refine (IndexAny_any_crlf s _ hs).mono ?_; rintro e w1 ⟨rfl, hb1⟩; rw [HX.out]
      go_wp2
      go_ret3
      exact ⟨by rw [HE.out]; rfl, hb1⟩
  · rw [if_neg hl] at hN
    have hli : ¬ (2000 : Int) < (k : Int) := by omega
    rcases hq : endL (s.data.toList.dropWhile eolB) with e0 | r
    · have HE : Box (lineV (nextL s.data.toList) = .tuple #[.string ⟨#[]⟩, .string ⟨#[]⟩, .int .i64 e0]) := box (by rw [hN, hq]; rfl)
      have HQ : Box (endL (s.extract k s.size).data.toList = .inl e0) := box (by rw [HD.out, hq])
      have he0 : e0 = 1 ∨ e0 = 2 := by
        unfold endL at hq
        split at hq
        · cases hq; exact .inr rfl
        · split at hq <;> cases hq <;> simp
        · split at hq <;> cases hq; exact .inl rfl
      clear hN HT HD hq hl
      rcases hcl with ⟨hx0, rfl⟩ | ⟨hx0, rfl⟩
      · have hee : s.extract s.size s.size = ByteArray.empty := by
          rw [ext_bs, List.drop_of_length_le (by simp)]; rfl
        rw [hee] at HQ
        have HZ : ByteArray.empty.size ≤ 4000000 := by decide
        clear HSL hee
        rcases he0 with rfl | rfl
        all_goals
          go_enter Tryz.func89, Tryz.ntmps89
          go_wp2_with fail
          refine (IndexAny_any_crlf s _ hs).mono ?_; rintro e w1 ⟨rfl, hb1⟩; rw [HX.out]
          go_wp2_with fail
          refine (cEnd_is HZ HQ).mono ?_; rintro e w2 ⟨rfl, rfl⟩; unfold endV
          go_wp2
          go_ret3
          exact ⟨by rw [HE.out]; rfl, hb1⟩
      · rcases he0 with rfl | rfl
        all_goals
          go_enter Tryz.func89, Tryz.ntmps89
          go_wp2_with fail
          refine (IndexAny_any_crlf s _ hs).mono ?_; rintro e w1 ⟨rfl, hb1⟩; rw [HX.out]
          go_wp2_with fail
          refine (cEnd_is HSL.out HQ).mono ?_; rintro e w2 ⟨rfl, rfl⟩; unfold endV
          go_wp2
          go_ret3
          exact ⟨by rw [HE.out]; rfl, hb1⟩
    · have HE : Box (lineV (nextL s.data.toList) = .tuple #[.string (s.extract 0 k), .string (bs r), .int .i64 0]) := box (by rw [hN, hq, HT.out]; rfl)
      have HQ : Box (endL (s.extract k s.size).data.toList = .inr r) := box (by rw [HD.out, hq])
      rcases hcl with ⟨hx0, rfl⟩ | ⟨hx0, rfl⟩
      · exfalso
        have : (s.extract s.size s.size).data.toList = [] := by
          rw [ext_bs, List.drop_of_length_le (by simp)]; rfl
        have := HQ.out
        simp_all [endL]
      · clear hN HT HD hq hl
        go_enter Tryz.func89, Tryz.ntmps89
        go_wp2_with fail
        refine (IndexAny_any_crlf s _ hs).mono ?_; rintro e w1 ⟨rfl, hb1⟩; rw [HX.out]
        go_wp2_with fail
        refine (cEnd_is HSL.out HQ).mono ?_; rintro e w2 ⟨rfl, rfl⟩; unfold endV
        go_wp2
        go_ret3
        exact ⟨by rw [HE.out]; rfl, hb1⟩
end
section
open Go.RowKit
/-- block k holds the string x, and may be written -/
def StrAt (k : Nat) (x : ByteArray) (w : World) : Prop := w.cell? ⟨k, 0, none⟩ = some (.string x) ∧ w.frozen? ⟨k, 0, none⟩ = false
theorem StrAt.new (x : ByteArray) (w : World) (t : TypeId) : StrAt w.heap.size x (w.alloc (.cells #[.string x] t)) :=
  ⟨by rw [World.cell?_alloc_mark]; rfl, by rw [World.frozen?_alloc_at _ _ _ _ rfl]⟩
theorem StrAt.lt {k : Nat} {x : ByteArray} {w : World} (h : StrAt k x w) : k < w.heap.size := cell_lt (p := ⟨k, 0, none⟩) h.1
theorem StrAt.below {k B : Nat} {x : ByteArray} {w w' : World} (h : StrAt k x w) (hb : Below B w w') (hk : k < B) : StrAt k x w' :=
  ⟨by rw [hb.cell hk]; exact h.1, by rw [hb.frozen hk]; exact h.2⟩
theorem StrAt.set {k : Nat} {x : ByteArray} {w : World} (h : StrAt k x w) (y : ByteArray) : StrAt k y (w.setCell ⟨k, 0, none⟩ (.string y)) :=
  ⟨by rw [World.cell?_setCell_same (h := h.1)], by rw [World.frozen?_setCell]; exact h.2⟩
/-- all that there was is as it was, but for block k -/
structure Only (k : Nat) (w w' : World) : Prop where
  os : w'.os = w.os
  tape : w'.tape = w.tape
  output : w'.output = w.output
  size : w.heap.size ≤ w'.heap.size
  block : ∀ j, j < w.heap.size → j ≠ k → w'.heap[j]? = w.heap[j]?
theorem Only.refl (k : Nat) (w : World) : Only k w w := ⟨rfl, rfl, rfl, Nat.le_refl _, fun _ _ _ => rfl⟩
theorem Only.trans {k : Nat} {a b c : World} (h : Only k a b) (g : Only k b c) : Only k a c :=
  ⟨g.os.trans h.os, g.tape.trans h.tape, g.output.trans h.output, Nat.le_trans h.size g.size, fun j hj hk => (g.block j (Nat.lt_of_lt_of_le hj h.size) hk).trans (h.block j hj hk)⟩
theorem Only.of {k : Nat} {w w' : World} (h : Below w.heap.size w w') : Only k w w' := ⟨h.os, h.tape, h.output, h.size, fun j hj _ => h.block j hj⟩
theorem Only.set {k : Nat} {w w' : World} (h : Only k w w') (v : Value) : Only k w (w'.setCell ⟨k, 0, none⟩ v) :=
  ⟨h.os, h.tape, h.output, by simpa using h.size, fun j hj hk => (Below.heap_setCell w' ⟨k, 0, none⟩ v j hk).trans (h.block j hj hk)⟩
theorem Only.below {k B : Nat} {w w' : World} (h : Only k w w') (hk : B ≤ k) (hB : B ≤ w.heap.size) : Below B w w' :=
  ⟨h.os, h.tape, h.output, h.size, fun j hj => h.block j (Nat.lt_of_lt_of_le hj hB) (by omega)⟩
theorem own_only {w w' : World} {k B : Nat} {e : TypeId} {size n : Nat} {v : Value} {xs : List Value} (h : w.ownsRow B e size v n xs) (hb : Only k w w') (hk : k < B) : w'.ownsRow B e size v n xs := by
  refine ⟨h.1, ?_⟩
  rcases h.2 with q | ⟨g, cap, cur, hv, hB, hg, r⟩
  · exact .inl q
  · refine .inr ⟨g, cap, cur, hv, hB, ?_, r⟩
    have : g < w.heap.size := by
      rcases Nat.lt_or_ge g w.heap.size with q | q
      · exact q
      · rw [Array.getElem?_eq_none q] at hg; cases hg
    rw [hb.block g this (by omega)]; exact hg
/-- a line, and what is left -/
def cloV : Int ⊕ (List UInt8 × List UInt8) → Value
  | .inl e => .tuple #[.string ⟨#[]⟩, .int .i64 e]
  | .inr (t, r) => .tuple #[.string (bs t), .int .i64 0]
def cloR : Int ⊕ (List UInt8 × List UInt8) → ByteArray
  | .inl _ => ⟨#[]⟩
  | .inr (t, r) => bs r
theorem lineV_is (o : Int ⊕ (List UInt8 × List UInt8)) : ∃ (x : ByteArray) (e : Int), lineV o = .tuple #[.string x, .string (cloR o), .int .i64 e] ∧ cloV o = .tuple #[.string x, .int .i64 e] := by
  rcases o with e | ⟨t, r⟩ <;> exact ⟨_, _, rfl, rfl⟩
theorem clo5_any (k : Nat) (x : ByteArray) (w : World) (hs : x.size ≤ 4000000) (h : Box (StrAt k x w)) :
    Calls Tryz.prog 112 #[.pointer (some ⟨k, 0, none⟩)] w fun e w' => e = .returned (cloV (nextL x.data.toList)) ∧ StrAt k (cloR (nextL x.data.toList)) w' ∧ Only k w w' := by
  obtain ⟨c0, f0⟩ := h.out
  have hlt := h.out.lt
  obtain ⟨y, e0, h1, h2⟩ := lineV_is (nextL x.data.toList)
  obtain ⟨r, hr⟩ : ∃ r, cloR (nextL x.data.toList) = r := ⟨_, rfl⟩
  rw [hr] at h1
  have H1 := box h1
  have H2 := box h2
  have HR := box hr
  clear h1 h2 hr f0
  go_enter Tryz.func112, Tryz.ntmps112
  go_wp2_with fail
  refine (cLine_any x _ hs).mono ?_; rintro e w1 ⟨rfl, hb1⟩; rw [H1.out]
  have S1 := box (h.out.below hb1 hlt)
  have O1 := box ((Only.of (k := k) hb1).set (.string r))
  have c1 := S1.out.1
  have f1 := S1.out.2
  clear hb1 c0 hlt
  go_wp2
  go_ret2
  exact ⟨by rw [H2.out]; rfl, by rw [HR.out]; exact S1.out.set r, O1.out⟩
end
section
open Go.RowKit
/-- the size by the parts of the line at the first semicolon -/
def sizeC (d x : List UInt8) : Option Nat := if (decide (d.length ≤ 8) && textL x && d.all hexB && !d.isEmpty) = true then some (hexN d) else none
theorem text_cons59 (x : List UInt8) : textL (59 :: x) = textL x := by
  unfold textL allI
  rw [List.all_cons]; rfl
theorem size_parts {d x : List UInt8} {b : Bool} (hd : 59 ∉ d) (hx : b = false → x = []) : sizeL (if b then d ++ 59 :: x else d) = sizeC d x := by
  have hsplit := List.takeWhile_append_dropWhile (p := hexB) (l := d)
  by_cases ha : d.all hexB = true
  · have hall : ∀ c ∈ d, hexB c = true := fun c hc => List.all_eq_true.mp ha c hc
    rcases b with _ | _
    · have ht : d.takeWhile hexB = d ∧ d.dropWhile hexB = [] := by
        have := while_all (r := []) hall (.inl rfl)
        rwa [List.append_nil] at this
      simp only [Bool.false_eq_true, if_false, sizeL, sizeOk, ht.1, ht.2, sizeC, ha, hx rfl]
      rcases d with _ | ⟨c, d⟩
      · simp
      · simp [textL, allI]
    · have ht := while_all (r := 59 :: x) hall (.inr ⟨_, _, rfl, by decide⟩)
      simp only [if_true, sizeL, sizeOk, ht.1, ht.2, sizeC, ha, text_cons59]
      rcases d with _ | ⟨c, d⟩
      · simp
      · simp
  · have hn : sizeC d x = none := by
      unfold sizeC
      rw [if_neg]
      simp only [Bool.and_eq_true, not_and]
      intro h
      simp_all
    rw [hn]
    -- the first byte that is no digit is no semicolon
    have key : ∀ (l : List UInt8), (∃ c t, d.dropWhile hexB = c :: t) → (l = d ∨ ∃ t, l = d ++ t) → sizeL l = none := by
      intro l ⟨c, t, hc⟩ hl
      have hcx : c ∈ d := by rw [← hsplit, hc]; simp
      have hc59 : c ≠ 59 := fun e => hd (by rw [← e]; exact hcx)
      have hcn : hexB c = false := by
        have := List.head?_dropWhile_not (p := hexB) (l := d)
        rw [hc] at this; simpa using this
      have hdl : ∃ t', l.dropWhile hexB = c :: t' := by
        have e : l = d.takeWhile hexB ++ c :: (t ++ l.drop d.length) := by
          rcases hl with rfl | ⟨t2, rfl⟩
          · simp only [List.drop_length, List.append_nil]; rw [← hc]; exact hsplit.symm
          · rw [List.drop_left]
            conv => lhs; rw [← hsplit, hc]
            simp
        have hw := while_all (t := d.takeWhile hexB) (r := c :: (t ++ l.drop d.length)) (fun c hc => List.all_eq_true.mp (List.all_takeWhile (p := hexB) (l := d)) c hc) (.inr ⟨_, _, rfl, hcn⟩)
        rw [← e] at hw
        exact ⟨_, hw.2⟩
      obtain ⟨t', ht'⟩ := hdl
      unfold sizeL sizeOk
      rw [ht', if_neg]
      simp [hc59]
    refine key _ ?_ ?_
    · rcases hq : d.dropWhile hexB with _ | ⟨c, t⟩
      · exfalso
        rw [hq, List.append_nil] at hsplit
        apply ha
        rw [← hsplit]
        exact List.all_takeWhile
      · exact ⟨c, t, rfl⟩
    · rcases b with _ | _
      · exact .inl rfl
      · exact .inr ⟨_, rfl⟩
def lowHex : ByteArray := ⟨#[48, 49, 50, 51, 52, 53, 54, 55, 56, 57, 97, 98, 99, 100, 101, 102]⟩
theorem hex_index (c : UInt8) : Lib.indexByte lowHex.data.toList (lowB c) = if hexB c = true then hexI c.toNat else -1 := by
  have key : ∀ x : Fin 256, Lib.indexByte lowHex.data.toList (lowB (UInt8.ofNat x.1)) = if hexB (UInt8.ofNat x.1) = true then hexI (UInt8.ofNat x.1).toNat else -1 := by decide +kernel
  have := key ⟨c.toNat, c.toNat_lt⟩
  simp only [UInt8.ofNat_toNat] at this
  exact this
theorem or_nat (a d : Nat) (ha : a < 4294967296) (hd : d < 16) : bits .or .i64 ((a : Int) * 16) (d : Int) = (a : Int) * 16 + (d : Int) := by
  have e : (a : Int) * 16 = ((a * 16 : Nat) : Int) := by omega
  rw [e]
  show IntKind.i64.wrap ((BitVec.ofInt 64 ((a * 16 : Nat) : Int) ||| BitVec.ofInt 64 ((d : Nat) : Int)).toNat : Int) = _
  rw [BitVec.toNat_or, ofInt_u64 _ (by omega), ofInt_u64 _ (by omega)]
  have h := Nat.two_pow_add_eq_or_of_lt (i := 4) (b := d) (by omega) a
  have e2 : a * 16 = 2 ^ 4 * a := by omega
  rw [e2, ← h, Lib.wrap_i64_small _ (by omega)]
  omega
theorem sIndexByte_is {s : ByteArray} {c n : Int} {w : World} (h : Box (Lib.indexByte s.data.toList c.toNat.toUInt8 = n)) :
    Calls Tryz.prog 133 #[.string s, .int .u8 c] w fun e w' => e = .returned (.int .i64 n) ∧ w = w' :=
  (sIndexByte_any s c w).mono fun e w' ⟨h1, h2⟩ => ⟨by rw [h1, h.out], h2⟩
theorem Text_is {s : ByteArray} {b : Bool} {w : World} (hs : Box (s.size ≤ maxLen)) (h : Box (textL s.data.toList = b)) :
    Calls Tryz.prog 88 #[.string s] w fun e w' => e = .returned (.bool b) ∧ w = w' :=
  (Text_any s w hs.out).mono fun e w' ⟨h1, h2⟩ => ⟨by rw [h1, h.out], h2⟩
theorem sizeC_no {d x : List UInt8} (h : ¬ (d.length ≤ 8) ∨ textL x = false ∨ d.all hexB = false ∨ d = []) : sizeC d x = none := by
  unfold sizeC
  rw [if_neg]
  rcases h with h | h | h | h <;> simp [h]
theorem sizeC_yes {d x : List UInt8} (h1 : d.length ≤ 8) (h2 : textL x = true) (h3 : d.all hexB = true) (h4 : d ≠ []) : sizeC d x = some (hexN d) := by
  unfold sizeC
  rw [if_pos]
  simp [h1, h2, h3, h4]
set_option maxRecDepth 100000 in
set_option maxHeartbeats 1000000 in
theorem cParse_any (s : ByteArray) (w : World) (hs : s.size ≤ 2000) :
    Calls Tryz.prog 128 #[.string s] w fun e w' => e = .returned (szV (sizeL s.data.toList)) ∧ Below w.heap.size w w' := by
  have hz : s.data.toList.length = s.size := by simp
  obtain ⟨d, x, b, hcut, hd, hx, hb, hsz⟩ : ∃ d x b, cutV 59 s.data.toList = .tuple #[.string (bs d), .string (bs x), .bool b] ∧ d.length ≤ 2000 ∧ x.length ≤ 2000 ∧ (b = true ∨ b = false) ∧ sizeL s.data.toList = sizeC d x := by
    refine ⟨cut1 59 s.data.toList, cut2 59 s.data.toList, cutB 59 s.data.toList, rfl, ?_, ?_, by cases cutB 59 s.data.toList <;> simp, ?_⟩
    · unfold cut1; exact Nat.le_trans (List.takeWhile_sublist _).length_le (by omega)
    · unfold cut2; rw [List.length_drop]; have := (List.dropWhile_sublist (l := s.data.toList) (· != (59 : UInt8))).length_le; omega
    · have h1 := size_parts (d := cut1 59 s.data.toList) (x := cut2 59 s.data.toList) (b := cutB 59 s.data.toList) (cut1_not _ _) (fun h => by
        by_cases e : Lib.indexByte s.data.toList 59 = -1
        · exact (cut_no e).2.1
        · obtain ⟨k, hk⟩ : ∃ k : Nat, Lib.indexByte s.data.toList 59 = k := ⟨(Lib.indexByte s.data.toList 59).toNat, by have := Lib.indexByte_ge s.data.toList 59; omega⟩
          have := (cut_at hk).2.2.2
          rw [this] at h; cases h)
      rw [← h1]
      rcases hb : cutB 59 s.data.toList with _ | _
      · by_cases e : Lib.indexByte s.data.toList 59 = -1
        · simp only [Bool.false_eq_true, if_false]; rw [(cut_no e).1]
        · obtain ⟨k, hk⟩ : ∃ k : Nat, Lib.indexByte s.data.toList 59 = k := ⟨(Lib.indexByte s.data.toList 59).toNat, by have := Lib.indexByte_ge s.data.toList 59; omega⟩
          have := (cut_at hk).2.2.2
          rw [this] at hb; cases hb
      · simp only [if_true]; rw [← cut_join hb]
  have HC := box hcut
  have HSZ := box hsz
  have HM : Box (s.size ≤ maxLen) := box (by unfold maxLen; omega)
  have HXM : Box ((bs x).size ≤ maxLen) := box (by rw [bs_size]; unfold maxLen; omega)
  have HDL : Box ((bs d).size = d.length) := box (bs_size d)
  clear hcut hsz hz
  by_cases h8 : d.length ≤ 8
  · have h8i : ¬ (8 : Int) < ((bs d).size : Int) := by rw [HDL.out]; omega
    rcases htx : textL x with _ | _
    · have HT : Box (textL (bs x).data.toList = false) := box htx
      have HE : Box (sizeL s.data.toList = none) := box (by rw [HSZ.out, sizeC_no (.inr (.inl htx))])
      clear htx
      go_enter Tryz.func128, Tryz.ntmps128
      go_wp2_with fail
      refine (Cut_any s 59 _ HM.out).mono ?_; rintro e w1 ⟨rfl, hb1⟩; rw [HC.out]
      go_wp2_with fail
      refine (Text_is HXM HT).mono ?_; rintro e w2 ⟨rfl, rfl⟩
      go_wp2
      go_ret2
      exact ⟨by rw [HE.out]; rfl, hb1⟩
    · have HT : Box (textL (bs x).data.toList = true) := box htx
      have HTX := box htx
      have HLZ : Box ((bs d).size ≤ 4294967296) := box (by rw [bs_size]; omega)
      obtain ⟨ld, hld⟩ : ∃ ld : ByteArray, (⟨(lowL (bs d).data.toList).toArray⟩ : ByteArray) = ld := ⟨_, rfl⟩
      have hlz : ld.size = d.length := by rw [← hld]; show (lowL d).toArray.size = _; simp [lowL]
      have HLD := box hld
      have HAT : Box (∀ k (h : k < ld.size) (h2 : k < d.length), ld[k] = lowB d[k]) := box (by
        intro k h h2
        subst hld
        show (lowL d).toArray[k]'_ = _
        simp [lowL_map, bs_toList])
      clear htx hld
      go_enter Tryz.func128, Tryz.ntmps128
      go_wp2_with fail
      refine (Cut_any s 59 _ HM.out).mono ?_; rintro e w1 ⟨rfl, hb1⟩; rw [HC.out]
      go_wp2_with fail
      refine (Text_is HXM HT).mono ?_; rintro e w2 ⟨rfl, rfl⟩
      go_wp2_with fail
      refine (Lower_any (bs d) _ HLZ.out).mono ?_; rintro e w2 ⟨rfl, hb2⟩; rw [HLD.out]
      have BL := box (hb1.trans (hb2.mono hb1.size))
      clear hb1 hb2
      go_wp2
      go_loop [8, 9, 10, 29] (fun v _ _ i => ∃ k : Nat, k ≤ d.length ∧ i = .int .i64 k ∧ v = .int .i64 (hexN (d.take k)) ∧ (d.take k).all hexB = true) (fun _ _ _ i => d.length - (intOf i).toNat)
      case atStart => exact ⟨0, Nat.zero_le _, rfl, rfl, rfl⟩
      case round =>
        obtain ⟨k, hk, rfl, rfl, hall⟩ := hrel
        have HA := box hall
        clear hall
        by_cases hlt : k < d.length
        · have hkl : k < ld.size := by omega
          have hki : (k : Int) < (ld.size : Int) := by omega
          have hat := HAT.out k hkl hlt
          obtain ⟨c, hc⟩ : ∃ c, d[k] = c := ⟨_, rfl⟩
          rw [hc] at hat
          have hix := hex_index c
          have HTK : Box (d.take (k + 1) = d.take k ++ [c]) := box (by rw [List.take_succ_eq_append_getElem hlt, hc])
          obtain ⟨y, hy⟩ : ∃ y : UInt8, ld[k] = y := ⟨_, rfl⟩
          have HY := box hy
          rw [hy] at hat
          rcases hh : hexB c with _ | _
          · rw [hh, if_neg (by simp)] at hix
            have HI : Box (Lib.indexByte lowHex.data.toList ((y.toNat : Int)).toNat.toUInt8 = -1) := box (by
              rw [← hix, hat]; congr 1; simp)
            have HE : Box (sizeL s.data.toList = none) := box (by
              rw [HSZ.out, sizeC_no (.inr (.inr (.inl ?_)))]
              rw [← List.take_append_drop (k + 1) d, HTK.out]
              simp [hh])
            clear hh hix hat hy hc
            go_wp2_with fail
            rw [HY.out]
            refine (sIndexByte_is HI).mono ?_; rintro e w3 ⟨rfl, rfl⟩
            go_wp2
            go_ret2
            exact ⟨by rw [HE.out]; rfl, BL.out⟩
          · rw [hh, if_pos rfl] at hix
            obtain ⟨p1, p2⟩ := hex_bd hh
            obtain ⟨p, hp⟩ : ∃ p : Nat, hexI c.toNat = (p : Int) := ⟨(hexI c.toNat).toNat, by omega⟩
            have HI : Box (Lib.indexByte lowHex.data.toList ((y.toNat : Int)).toNat.toUInt8 = (p : Int)) := box (by
              rw [← hp, ← hix, hat]; congr 1; simp)
            obtain ⟨a, ha⟩ : ∃ a, hexN (d.take k) = a := ⟨_, rfl⟩
            have ha2 : a < 4294967296 := by
              have h1 := hexN_lt (d.take k) (fun c hc => List.all_eq_true.mp HA.out c hc)
              rw [ha] at h1
              refine Nat.lt_of_lt_of_le h1 (Nat.le_trans (Nat.pow_le_pow_right (by omega) (?_ : _ ≤ 8)) (by decide))
              rw [List.length_take]; omega
            have HN : Box ((hexN (d.take (k + 1)) : Int) = (a : Int) * 16 + (p : Int)) := box (by
              rw [HTK.out, hexN_snoc, ha, hp]; simp)
            have HA2 : Box ((d.take (k + 1)).all hexB = true) := box (by rw [HTK.out, List.all_append, HA.out]; simp [hh])
            have HAA := box ha
            have hor := box (or_nat a p ha2 (by omega))
            have hp0 : (0 : Int) ≤ (p : Int) := by omega
            have hp15 : (p : Int) ≤ 15 := by omega
            have ha0 : (0 : Int) ≤ (a : Int) := by omega
            have ha3 : (a : Int) ≤ 4294967296 := by omega
            rw [HAA.out]
            clear hh hix hat hy hc hp p1 p2 ha ha2
            go_wp2_with fail
            rw [HY.out]
            refine (sIndexByte_is HI).mono ?_; rintro e w3 ⟨rfl, rfl⟩
            go_wp2
            go_round
            case rel => exact ⟨k + 1, by omega, by go_num, by rw [HN.out, ← hor.out], HA2.out⟩
            case measure => simp [intOf]; omega
        · obtain rfl : k = d.length := by omega
          rw [List.take_length] at HA
          clear hlt
          by_cases hd0 : d = []
          · subst hd0
            have HE : Box (sizeL s.data.toList = none) := box (by rw [HSZ.out, sizeC_no (.inr (.inr (.inr rfl)))])
            have hem : (bs ([] : List UInt8)).toList.isEmpty = true := by rw [toList_bs]; rfl
            go_wp2
            go_ret2
            exact ⟨by rw [HE.out]; rfl, BL.out⟩
          · have HE : Box (sizeL s.data.toList = some (hexN d)) := box (by rw [HSZ.out, sizeC_yes h8 HTX.out HA.out hd0])
            have hem : (bs d).toList.isEmpty = false := by rw [toList_bs]; cases d <;> simp_all
            rw [List.take_length]
            go_wp2
            go_ret2
            exact ⟨by rw [HE.out]; rfl, BL.out⟩
  · have h8i : (8 : Int) < ((bs d).size : Int) := by rw [HDL.out]; omega
    have HE : Box (sizeL s.data.toList = none) := box (by rw [HSZ.out, sizeC_no (.inl h8)])
    go_enter Tryz.func128, Tryz.ntmps128
    go_wp2_with fail
    refine (Cut_any s 59 _ HM.out).mono ?_; rintro e w1 ⟨rfl, hb1⟩; rw [HC.out]
    go_wp2
    go_ret2
    exact ⟨by rw [HE.out]; rfl, hb1⟩
/-- what nextSize returns for a line with room bytes left -/
def nsV (room : Int) : Int ⊕ (List UInt8 × List UInt8) → Value
  | .inl e => .tuple #[.int .i64 0, .int .i64 e]
  | .inr (t, r) => match sizeL t with
    | none => .tuple #[.int .i64 0, .int .i64 1]
    | some n => if room < (n : Int) then .tuple #[.int .i64 0, .int .i64 5] else .tuple #[.int .i64 n, .int .i64 0]
theorem clo5_is {k : Nat} {x r : ByteArray} {v : Value} {w : World} (hs : x.size ≤ 4000000) (h : Box (StrAt k x w)) (hv : Box (cloV (nextL x.data.toList) = v)) (hr : Box (cloR (nextL x.data.toList) = r)) :
    Calls Tryz.prog 112 #[.pointer (some ⟨k, 0, none⟩)] w fun e w' => e = .returned v ∧ StrAt k r w' ∧ Only k w w' :=
  (clo5_any k x w hs h).mono fun e w' ⟨h1, h2, h3⟩ => ⟨by rw [h1, hv.out], by rw [← hr.out]; exact h2, h3⟩
theorem parse5_is {t : List UInt8} {o : Option Nat} {w : World} (hs : t.length ≤ 2000) (h : Box (sizeL t = o)) :
    Calls Tryz.prog 128 #[.string (bs t)] w fun e w' => e = .returned (szV o) ∧ Below w.heap.size w w' :=
  (cParse_any (bs t) w (by rw [bs_size]; omega)).mono fun e w' ⟨h1, h2⟩ => ⟨by rw [h1, bs_toList, h.out], h2⟩
theorem next5_any (k : Nat) (x : ByteArray) (room : Int) (w : World) (hs : x.size ≤ 4000000) (h : Box (StrAt k x w)) (h0 : 0 ≤ room) (h1 : room ≤ 100000) :
    Calls Tryz.prog 113 #[.func (.func 112) #[] #[.pointer (some ⟨k, 0, none⟩)], .int .i64 room] w fun e w' => e = .returned (nsV room (nextL x.data.toList)) ∧ StrAt k (cloR (nextL x.data.toList)) w' ∧ Only k w w' := by
  obtain ⟨r, hr⟩ : ∃ r, cloR (nextL x.data.toList) = r := ⟨_, rfl⟩
  have HR := box hr
  rcases hn : nextL x.data.toList with e0 | ⟨t, r'⟩
  · have HV : Box (cloV (nextL x.data.toList) = .tuple #[.string ⟨#[]⟩, .int .i64 e0]) := box (by rw [hn]; rfl)
    have HE : Box (nsV room (nextL x.data.toList) = .tuple #[.int .i64 0, .int .i64 e0]) := box (by rw [hn]; rfl)
    have he := err_size hn
    rw [← hn]
    clear hn hr
    rcases he with rfl | rfl | rfl
    all_goals
      go_enter Tryz.func113, Tryz.ntmps113
      go_wp2_with fail
      refine (clo5_is hs h HV HR).mono ?_; rintro e w1 ⟨rfl, hs1, ho1⟩
      have S1 := box hs1
      have O1 := box ho1
      clear hs1 ho1
      go_wp2
      go_ret2
      exact ⟨by rw [HE.out]; rfl, by rw [HR.out]; exact S1.out, O1.out⟩
  · have htl : t.length ≤ 2000 := (next_line hn).2.2
    have HV : Box (cloV (nextL x.data.toList) = .tuple #[.string (bs t), .int .i64 0]) := box (by rw [hn]; rfl)
    rcases hz : sizeL t with _ | n
    · have HE : Box (nsV room (nextL x.data.toList) = .tuple #[.int .i64 0, .int .i64 1]) := box (by rw [hn]; simp only [nsV, hz])
      have HZ := box hz
      rw [← hn]
      clear hn hr hz
      go_enter Tryz.func113, Tryz.ntmps113
      go_wp2_with fail
      refine (clo5_is hs h HV HR).mono ?_; rintro e w1 ⟨rfl, hs1, ho1⟩
      have S1 := box hs1
      have O1 := box ho1
      clear hs1 ho1
      go_wp2_with fail
      refine (parse5_is htl HZ).mono ?_; rintro e w2 ⟨rfl, hb2⟩; unfold szV
      have S2 := box (S1.out.below hb2 S1.out.lt)
      have O2 := box (O1.out.trans (Only.of hb2))
      clear hb2
      go_wp2
      go_ret2
      exact ⟨by rw [HE.out]; rfl, by rw [HR.out]; exact S2.out, O2.out⟩
    · have hnb := size_bd hz
      have hnb2 : (n : Int) ≤ 4294967296 := by omega
      have HZ := box hz
      by_cases hlt : room < (n : Int)
      · have HE : Box (nsV room (nextL x.data.toList) = .tuple #[.int .i64 0, .int .i64 5]) := box (by rw [hn]; simp only [nsV, hz, if_pos hlt])
        rw [← hn]
        clear hn hr hz hnb
        go_enter Tryz.func113, Tryz.ntmps113
        go_wp2_with fail
        refine (clo5_is hs h HV HR).mono ?_; rintro e w1 ⟨rfl, hs1, ho1⟩
        have S1 := box hs1
        have O1 := box ho1
        clear hs1 ho1
        go_wp2_with fail
        refine (parse5_is htl HZ).mono ?_; rintro e w2 ⟨rfl, hb2⟩; unfold szV
        have S2 := box (S1.out.below hb2 S1.out.lt)
        have O2 := box (O1.out.trans (Only.of hb2))
        clear hb2
        go_wp2
        go_ret2
        exact ⟨by rw [HE.out]; rfl, by rw [HR.out]; exact S2.out, O2.out⟩
      · have HE : Box (nsV room (nextL x.data.toList) = .tuple #[.int .i64 n, .int .i64 0]) := box (by rw [hn]; simp only [nsV, hz, if_neg hlt])
        rw [← hn]
        clear hn hr hz hnb
        go_enter Tryz.func113, Tryz.ntmps113
        go_wp2_with fail
        refine (clo5_is hs h HV HR).mono ?_; rintro e w1 ⟨rfl, hs1, ho1⟩
        have S1 := box hs1
        have O1 := box ho1
        clear hs1 ho1
        go_wp2_with fail
        refine (parse5_is htl HZ).mono ?_; rintro e w2 ⟨rfl, hb2⟩; unfold szV
        have S2 := box (S1.out.below hb2 S1.out.lt)
        have O2 := box (O1.out.trans (Only.of hb2))
        clear hb2
        go_wp2
        go_ret2
        exact ⟨by rw [HE.out]; rfl, by rw [HR.out]; exact S2.out, O2.out⟩
/-- the bytes of a chunk and what follows their end -/
def dataL (n : Nat) (l : List UInt8) : Int ⊕ (List UInt8 × List UInt8) := if l.length < n then .inl 2 else match endL (l.drop n) with | .inl e => .inl e | .inr r => .inr (l.take n, r)
theorem cData_any (s : ByteArray) (n : Nat) (w : World) (hs : s.size ≤ 4000000) (hn : n ≤ 100000) :
    Calls Tryz.prog 114 #[.string s, .int .i64 n] w fun e w' => e = .returned (lineV (dataL n s.data.toList)) ∧ w = w' := by
  have hz : s.data.toList.length = s.size := by simp
  by_cases hl : s.size < n
  · have HE : Box (lineV (dataL n s.data.toList) = .tuple #[.string ⟨#[]⟩, .string ⟨#[]⟩, .int .i64 2]) := box (by unfold dataL; rw [if_pos (by omega)]; rfl)
    have hli : (s.size : Int) < (n : Int) := by omega
    go_enter Tryz.func114, Tryz.ntmps114
    go_wp2
    go_ret3
    exact ⟨by rw [HE.out]; rfl, rfl⟩
  · have hli : ¬ (s.size : Int) < (n : Int) := by omega
    have hni : (n : Int) ≤ (s.size : Int) := by omega
    have HSL : Box ((s.extract n s.size).size ≤ 4000000) := box (by rw [ByteArray.size_extract]; omega)
    have HD : Box ((s.extract n s.size).data.toList = s.data.toList.drop n) := box (by rw [ext_bs, List.take_of_length_le (by simp)]; rfl)
    have hN : dataL n s.data.toList = match endL (s.data.toList.drop n) with | .inl e => .inl e | .inr r => .inr (s.data.toList.take n, r) := by
      unfold dataL; rw [if_neg (by omega)]
    have hem : n = s.size → (s.extract s.size s.size) = ByteArray.empty := fun _ => by rw [ext_bs, List.drop_of_length_le (by simp)]; rfl
    rcases hq : endL (s.data.toList.drop n) with e0 | r
    · have HE : Box (lineV (dataL n s.data.toList) = .tuple #[.string ⟨#[]⟩, .string ⟨#[]⟩, .int .i64 e0]) := box (by rw [hN, hq]; rfl)
      have HQ : Box (endL (s.extract n s.size).data.toList = .inl e0) := box (by rw [HD.out, hq])
      have he0 : e0 = 1 ∨ e0 = 2 := by
        unfold endL at hq
        split at hq
        · cases hq; exact .inr rfl
        · split at hq <;> cases hq <;> simp
        · split at hq <;> cases hq; exact .inl rfl
      clear hN HD hq hl hz
      by_cases he : n = s.size
      · subst he
        rw [hem rfl] at HQ
        have HZ : ByteArray.empty.size ≤ 4000000 := by decide
        clear HSL hem
        rcases he0 with rfl | rfl
        all_goals
          go_enter Tryz.func114, Tryz.ntmps114
          go_wp2_with fail
          refine (cEnd_is HZ HQ).mono ?_; rintro e w2 ⟨rfl, rfl⟩; unfold endV
          go_wp2
          go_ret3
          exact ⟨by rw [HE.out]; rfl, rfl⟩
      · clear hem
        rcases he0 with rfl | rfl
        all_goals
          go_enter Tryz.func114, Tryz.ntmps114
          go_wp2_with fail
          refine (cEnd_is HSL.out HQ).mono ?_; rintro e w2 ⟨rfl, rfl⟩; unfold endV
          go_wp2
          go_ret3
          exact ⟨by rw [HE.out]; rfl, rfl⟩
    · have HE : Box (lineV (dataL n s.data.toList) = .tuple #[.string (s.extract 0 n), .string (bs r), .int .i64 0]) := box (by rw [hN, hq, ext_bs, List.drop_zero]; rfl)
      have HQ : Box (endL (s.extract n s.size).data.toList = .inr r) := box (by rw [HD.out, hq])
      have hne : n ≠ s.size := by
        intro e
        rw [List.drop_of_length_le (by omega)] at hq
        simp [endL] at hq
      clear hN HD hq hl hz hem
      go_enter Tryz.func114, Tryz.ntmps114
      go_wp2_with fail
      refine (cEnd_is HSL.out HQ).mono ?_; rintro e w2 ⟨rfl, rfl⟩; unfold endV
      go_wp2
      go_ret3
      exact ⟨by rw [HE.out]; rfl, rfl⟩
end
section
open Go.RowKit
/-- what skipTrailer returns and leaves in the variable -/
def SkipPost (k : Nat) (o : Int ⊕ List UInt8) (e : Ending) (w' : World) : Prop := match o with
  | .inl c => e = .returned (.int .i64 c) ∧ (c = 0 → False)
  | .inr r => e = .returned (.int .i64 0) ∧ StrAt k (bs r) w'
theorem next_le {l t r : List UInt8} (h : nextL l = .inr (t, r)) : r.length ≤ l.length := by
  have := congrArg List.length (next_line h).1
  simp at this; omega
theorem Parse5_is {t : List UInt8} {a1 a2 : List UInt8} {e2 : Int} {w : World} (hs : t.length ≤ 2000) (h : Box (fieldL t = (a1, a2, e2))) :
    Calls Tryz.prog 90 #[.string (bs t)] w fun e w' => e = .returned (.tuple #[.agg #[.string (bs a1), .string (bs a2)], .int .i64 e2]) ∧ Below w.heap.size w w' :=
  (Parse_any (bs t) w (by rw [bs_size]; unfold maxLen; omega)).mono fun e w' ⟨h1, h2⟩ => ⟨by rw [h1, bs_toList, h.out, fieldV_mk], h2⟩
def SkipRel (k : Nat) (x : ByteArray) (w : World) (c : Value) (wr : World) : Prop := ∃ (j : Nat) (y : ByteArray), c = .int .i64 j ∧ j ≤ 64 ∧ y.size ≤ 4000000 ∧ trailF 66 0 x.data.toList = trailF (66 - j) j y.data.toList ∧ StrAt k y wr ∧ Only k w wr
set_option maxHeartbeats 1000000 in
theorem skip5_any (k : Nat) (x : ByteArray) (w : World) (hs : x.size ≤ 4000000) (h : Box (StrAt k x w)) :
    Calls Tryz.prog 115 #[.func (.func 112) #[] #[.pointer (some ⟨k, 0, none⟩)]] w fun e w' => SkipPost k (trailF 66 0 x.data.toList) e w' ∧ Only k w w' := by
  go_enter Tryz.func115, Tryz.ntmps115
  go_wp2
  go_loopw [3] (fun c wr => SkipRel k x w c wr) (fun c _ => 65 - (intOf c).toNat)
  case atStart => exact ⟨0, x, rfl, Nat.zero_le _, hs, rfl, h.out, Only.refl _ _⟩
  case round =>
    obtain ⟨j, y, rfl, hj, hy, hT, hS, hO⟩ := hrel
    obtain ⟨g, hg⟩ : ∃ g, 66 - j = g + 1 := ⟨65 - j, by omega⟩
    rw [hg] at hT
    have HT := box hT
    have S0 := box hS
    have O0 := box hO
    clear hT hS hO
    obtain ⟨r0, hr0⟩ : ∃ r0, cloR (nextL y.data.toList) = r0 := ⟨_, rfl⟩
    have HR := box hr0
    rcases hn : nextL y.data.toList with e0 | ⟨t, r⟩
    · have HV : Box (cloV (nextL y.data.toList) = .tuple #[.string ⟨#[]⟩, .int .i64 e0]) := box (by rw [hn]; rfl)
      have HE : Box (trailF 66 0 x.data.toList = .inl e0) := box (by rw [HT.out, trail_bad hn])
      have he := err_size hn
      clear hn hr0
      rcases he with rfl | rfl | rfl
      all_goals
        go_wp2_with fail
        refine (clo5_is hy S0 HV HR).mono ?_; rintro e w1 ⟨rfl, hs1, ho1⟩
        have O1 := box (O0.out.trans ho1)
        clear hs1 ho1
        go_wp2
        go_ret
        refine ⟨?_, O1.out⟩
        rw [HE.out]
        exact ⟨rfl, by decide⟩
    · have htl : t.length ≤ 2000 := (next_line hn).2.2
      have hrl := next_le hn
      have HV : Box (cloV (nextL y.data.toList) = .tuple #[.string (bs t), .int .i64 0]) := box (by rw [hn]; rfl)
      have hr1 : r0 = bs r := by rw [← hr0, hn]; rfl
      subst hr1
      have hyl : y.data.toList.length = y.size := by simp
      have hrz : (bs r).size ≤ 4000000 := by rw [bs_size]; omega
      clear hr0 hyl hrl
      by_cases ht : t = []
      · subst ht
        have HE : Box (trailF 66 0 x.data.toList = .inr r) := box (by rw [HT.out, trail_done hn])
        clear hn
        go_wp2_with fail
        refine (clo5_is hy S0 HV HR).mono ?_; rintro e w1 ⟨rfl, hs1, ho1⟩
        have S1 := box hs1
        have O1 := box (O0.out.trans ho1)
        clear hs1 ho1
        rw [show bs ([] : List UInt8) = (⟨#[]⟩ : ByteArray) from rfl]
        go_wp2
        go_ret
        refine ⟨?_, O1.out⟩
        rw [HE.out]
        exact ⟨rfl, S1.out⟩
      · have hte : (bs t).toList.isEmpty = false := by rw [toList_bs]; cases t <;> simp_all
        by_cases hj64 : j = 64
        · subst hj64
          have HE : Box (trailF 66 0 x.data.toList = .inl 4) := box (by rw [HT.out, trail_many hn ht])
          clear hn ht
          go_wp2_with fail
          refine (clo5_is hy S0 HV HR).mono ?_; rintro e w1 ⟨rfl, hs1, ho1⟩
          have O1 := box (O0.out.trans ho1)
          clear hs1 ho1
          go_wp2
          go_ret
          refine ⟨?_, O1.out⟩
          rw [HE.out]
          exact ⟨rfl, by decide⟩
        · have hji : ((j : Int) == 64) = false := by rw [beq_eq_false_iff_ne]; omega
          obtain ⟨a1, a2, e2, hfl⟩ : ∃ a1 a2 e2, fieldL t = (a1, a2, e2) := ⟨_, _, _, rfl⟩
          have HF := box hfl
          rcases he2 : ((e2 : Int) != 0) with _ | _
          · have he20 : e2 = 0 := by simpa using he2
            have HNX := box (HT.out.trans (trail_next hn ht hj64 (by rw [hfl]; exact he20)))
            clear hn ht hfl he20
            go_wp2_with fail
            refine (clo5_is hy S0 HV HR).mono ?_; rintro e w1 ⟨rfl, hs1, ho1⟩
            have S1 := box hs1
            have O1 := box (O0.out.trans ho1)
            clear hs1 ho1
            go_wp2_with fail
            refine (Parse5_is htl HF).mono ?_; rintro e w2 ⟨rfl, hb2⟩
            have S2 := box (S1.out.below hb2 S1.out.lt)
            have O2 := box (O1.out.trans (Only.of hb2))
            clear hb2
            go_wp2
            go_roundw
            case rel => exact ⟨j + 1, bs r, by go_num, by omega, hrz, by rw [show 66 - (j + 1) = g from by omega]; exact HNX.out, S2.out.below (below_new _ _) S2.out.lt, O2.out.trans (Only.of (below_new _ _))⟩
            case measure => simp [intOf]; omega
          · have he20 : e2 ≠ 0 := by simpa using he2
            have HE : Box (trailF 66 0 x.data.toList = .inl e2) := box (by rw [HT.out, trail_field hn ht hj64 (by rw [hfl]; exact he20), hfl])
            have HNE := box he20
            clear hn ht hfl he20
            go_wp2_with fail
            refine (clo5_is hy S0 HV HR).mono ?_; rintro e w1 ⟨rfl, hs1, ho1⟩
            have S1 := box hs1
            have O1 := box (O0.out.trans ho1)
            clear hs1 ho1
            go_wp2_with fail
            refine (Parse5_is htl HF).mono ?_; rintro e w2 ⟨rfl, hb2⟩
            have O2 := box (O1.out.trans (Only.of hb2))
            clear hb2
            go_wp2
            go_ret
            refine ⟨?_, O2.out.trans (Only.of (below_new _ _))⟩
            rw [HE.out]
            exact ⟨rfl, HNE.out⟩
end
section
open Go.RowKit
theorem ck_dataL {body l t r : List UInt8} {n : Nat} (h : nextL l = .inr (t, r)) (hs : sizeL t = some n) (hn : ¬ 100000 < n + body.length) (h0 : n ≠ 0) :
    chunkL body l = match dataL n r with | .inl e => .bad e | .inr (d, r2) => .data d r2 := by
  by_cases hr : r.length < n
  · rw [ck_short h hs hn h0 hr]; unfold dataL; rw [if_pos hr]
  · have e2 : r.drop (n + 2) = (r.drop n).drop 2 := by rw [List.drop_drop]
    unfold dataL
    rw [if_neg hr]
    rcases hq : r.drop n with _ | ⟨c, _ | ⟨d, r'⟩⟩
    · rw [ck_short2 h hs hn h0 hr (.inl hq)]; rfl
    · by_cases hc : c = 13
      · subst hc; rw [ck_short2 h hs hn h0 hr (.inr hq)]; rfl
      · rw [ck_syntax h hs hn h0 hr (by rw [hq]; simp [hc]) (by rw [hq]; simp)]
        simp [endL, hc]
    · by_cases hc : c = 13 ∧ d = 10
      · obtain ⟨rfl, rfl⟩ := hc
        rw [ck_data h hs hn h0 hr (by rw [hq]; simp) (by rw [hq]; rfl), e2, hq]
        simp [endL]
      · rw [ck_syntax h hs hn h0 hr (by rw [hq]; simp) (by rw [hq]; simpa using fun a b => hc ⟨a, b⟩)]
        simp only [endL, if_neg hc]
theorem data_err {n : Nat} {r : List UInt8} {e : Int} (h : dataL n r = .inl e) : e = 1 ∨ e = 2 := by
  unfold dataL at h
  split at h
  · cases h; exact .inr rfl
  · split at h
    · rename_i hq
      cases h
      unfold endL at hq
      split at hq
      · cases hq; exact .inr rfl
      · split at hq <;> cases hq <;> simp
      · split at hq <;> cases hq; exact .inl rfl
    · cases h
theorem end_ok {l r : List UInt8} (h : endL l = .inr r) : l = 13 :: 10 :: r := by
  rcases l with _ | ⟨c, _ | ⟨d, r'⟩⟩
  · cases h
  · by_cases hc : c = 13 <;> simp [endL, hc] at h
  · by_cases hc : c = 13 ∧ d = 10
    · simp only [endL, if_pos hc] at h
      cases h
      rw [hc.1, hc.2]
    · simp only [endL, if_neg hc] at h
      cases h
theorem data_ok {n : Nat} {r d r2 : List UInt8} (h : dataL n r = .inr (d, r2)) : d.length = n ∧ r2.length + n ≤ r.length ∧ d = r.take n := by
  unfold dataL at h
  split at h
  · cases h
  · split at h
    · cases h
    · rename_i hl _ _ hq
      cases h
      have := congrArg List.length (end_ok hq)
      rw [List.length_drop] at this
      simp at this
      exact ⟨by rw [List.length_take]; omega, by omega, rfl⟩
theorem trail_le : ∀ {f k : Nat} {l r : List UInt8}, trailF f k l = .inr r → r.length ≤ l.length
  | 0, k, l, r, h => by cases h
  | f + 1, k, l, r, h => by
    unfold trailF at h
    split at h
    · cases h
    · rename_i t r' hn
      have hl := next_le hn
      split at h
      · cases h; exact hl
      · split at h
        · cases h
        · split at h
          · cases h
          · exact Nat.le_trans (trail_le h) hl
theorem Own.slice {w : World} {B : Nat} {v : Value} {l : List UInt8} (h : Own w B v l) : ∃ a cap, v = .slice a l.length cap := by
  rcases h.2 with ⟨rfl, hn⟩ | ⟨g, cap, cur, rfl, _⟩
  · exact ⟨none, 0, by rw [hn]⟩
  · exact ⟨_, cap, rfl⟩
theorem next5_is {k : Nat} {x r : ByteArray} {room : Int} {v : Value} {w : World} (hs : x.size ≤ 4000000) (h : Box (StrAt k x w)) (h0 : 0 ≤ room) (h1 : room ≤ 100000) (hv : Box (nsV room (nextL x.data.toList) = v)) (hr : Box (cloR (nextL x.data.toList) = r)) :
    Calls Tryz.prog 113 #[.func (.func 112) #[] #[.pointer (some ⟨k, 0, none⟩)], .int .i64 room] w fun e w' => e = .returned v ∧ StrAt k r w' ∧ Only k w w' :=
  (next5_any k x room w hs h h0 h1).mono fun e w' ⟨h1, h2, h3⟩ => ⟨by rw [h1, hv.out], by rw [← hr.out]; exact h2, h3⟩
theorem data5_is {l : List UInt8} {n : Nat} {v : Value} {w : World} (hs : l.length ≤ 4000000) (hn : n ≤ 100000) (h : Box (lineV (dataL n l) = v)) :
    Calls Tryz.prog 114 #[.string (bs l), .int .i64 n] w fun e w' => e = .returned v ∧ w = w' :=
  (cData_any (bs l) n w (by rw [bs_size]; exact hs) hn).mono fun e w' ⟨h1, h2⟩ => ⟨by rw [h1, bs_toList, h.out], h2⟩
def DecR (s : ByteArray) (w : World) (g : Nat) (v : Value) (wr : World) : Prop := ∃ (b : List UInt8) (y : ByteArray), Own wr (w.heap.size + 1) v b ∧ b.length ≤ 100000 ∧ y.size ≤ 4000000 ∧ y.data.toList.length ≤ g ∧ chunksF (s.data.toList.length + 1) [] s.data.toList = chunksF (g + 1) b y.data.toList ∧ StrAt w.heap.size y wr ∧ Below w.heap.size w wr ∧ w.heap.size + 1 ≤ wr.heap.size
set_option maxRecDepth 100000 in
set_option maxHeartbeats 4000000 in
theorem cDecode_any (s : ByteArray) (w : World) (hs : s.size ≤ 2000000) :
    Calls Tryz.prog 95 #[.string s] w fun e w' => e = .returned (dcV (decodeL s.data.toList)) ∧ Below w.heap.size w w' := by
  have hmf : ∀ (fn : Fn) (first cap : Array Value) (w : World), (Instr.makeFunc fn first cap).run Tryz.prog w = .ok (.func fn first cap) w := fun _ _ _ _ => rfl
  have hz : s.data.toList.length = s.size := by simp
  go_enter Tryz.func95, Tryz.ntmps95
  go_wp2
  go_loopg [7] s.size (fun g v wr => DecR s w g v wr)
  case atStart => exact ⟨[], s, Own.nil _ _, by simp, by omega, by omega, by rw [hz], StrAt.new s w _, below_new _ _, by simp⟩
  case round =>
    obtain ⟨b, y, hO, hb, hy, hg, hC, hS, hbel, hsz⟩ := hrel
    obtain ⟨a, cap, rfl⟩ := hO.slice
    have O0 := box hO
    have HC := box hC
    have S0 := box hS
    have BL := box hbel
    have HSZ := box hsz
    have hbi : (b.length : Int) ≤ 100000 := by omega
    have hr0 : (0 : Int) ≤ 100000 - (b.length : Int) := by omega
    have hr1 : 100000 - (b.length : Int) ≤ 100000 := by omega
    clear hO hC hS hbel hsz
    obtain ⟨r0, hr0'⟩ : ∃ r0, cloR (nextL y.data.toList) = r0 := ⟨_, rfl⟩
    have HR := box hr0'
    rcases hn : nextL y.data.toList with e0 | ⟨t, r⟩
    · have HV : Box (nsV (100000 - (b.length : Int)) (nextL y.data.toList) = .tuple #[.int .i64 0, .int .i64 e0]) := box (by rw [hn]; rfl)
      have HE : Box (decodeL s.data.toList = ([], 0, e0)) := box (dec_bad HC.out (ck_next hn))
      have he := err_size hn
      clear hn hr0'
      rcases he with rfl | rfl | rfl
      all_goals
        go_wp2_with fail
        refine (next5_is hy S0 hr0 hr1 HV HR).mono ?_; rintro e w1 ⟨rfl, hs1, ho1⟩
        have B1 := box (BL.out.trans (ho1.below (Nat.le_refl _) BL.out.size))
        clear hs1 ho1
        go_wp2
        go_ret3
        exact ⟨by rw [HE.out]; rfl, B1.out⟩
    · have hyl : y.data.toList.length = y.size := by simp
      have hrl := next_le hn
      have hr1' : r0 = bs r := by rw [← hr0', hn]; rfl
      subst hr1'
      have hrz : r.length ≤ 4000000 := by omega
      rcases hsz' : sizeL t with _ | n
      · have HV : Box (nsV (100000 - (b.length : Int)) (nextL y.data.toList) = .tuple #[.int .i64 0, .int .i64 1]) := box (by rw [hn]; simp only [nsV, hsz'])
        have HE : Box (decodeL s.data.toList = ([], 0, 1)) := box (dec_bad HC.out (ck_size hn hsz'))
        clear hn hr0' hsz'
        go_wp2_with fail
        refine (next5_is hy S0 hr0 hr1 HV HR).mono ?_; rintro e w1 ⟨rfl, hs1, ho1⟩
        have B1 := box (BL.out.trans (ho1.below (Nat.le_refl _) BL.out.size))
        clear hs1 ho1
        go_wp2
        go_ret3
        exact ⟨by rw [HE.out]; rfl, B1.out⟩
      · by_cases h5 : 100000 < n + b.length
        · have HV : Box (nsV (100000 - (b.length : Int)) (nextL y.data.toList) = .tuple #[.int .i64 0, .int .i64 5]) := box (by rw [hn]; simp only [nsV, hsz']; rw [if_pos (by omega)])
          have HE : Box (decodeL s.data.toList = ([], 0, 5)) := box (dec_bad HC.out (ck_body hn hsz' h5))
          clear hn hr0' hsz' h5
          go_wp2_with fail
          refine (next5_is hy S0 hr0 hr1 HV HR).mono ?_; rintro e w1 ⟨rfl, hs1, ho1⟩
          have B1 := box (BL.out.trans (ho1.below (Nat.le_refl _) BL.out.size))
          clear hs1 ho1
          go_wp2
          go_ret3
          exact ⟨by rw [HE.out]; rfl, B1.out⟩
        · have HV : Box (nsV (100000 - (b.length : Int)) (nextL y.data.toList) = .tuple #[.int .i64 n, .int .i64 0]) := box (by rw [hn]; simp only [nsV, hsz']; rw [if_neg (by omega)])
          by_cases h0 : n = 0
          · subst h0
            have HL := box (dec_last HC.out (ck_last hn hsz' h5))
            clear hn hr0' hsz' h5
            go_wp2_with fail
            refine (next5_is hy S0 hr0 hr1 HV HR).mono ?_; rintro e w1 ⟨rfl, hs1, ho1⟩
            have B1 := box (BL.out.trans (ho1.below (Nat.le_refl _) BL.out.size))
            have S1 := box hs1
            have O1 := box (own_only O0.out ho1 (Nat.lt_succ_self _))
            clear hs1 ho1
            have hrz2 : (bs r).size ≤ 4000000 := by rw [bs_size]; exact hrz
            go_wp2_with fail
            refine (skip5_any _ (bs r) _ hrz2 S1).mono ?_; rintro e w2 ⟨hp, ho2⟩
            have B2 := box (B1.out.trans (ho2.below (Nat.le_refl _) B1.out.size))
            have O2 := box (own_only O1.out ho2 (Nat.lt_succ_self _))
            rw [bs_toList] at hp
            clear ho2
            rcases ht : trailF 66 0 r with c | r2
            · rw [ht] at hp
              obtain ⟨rfl, hc0⟩ := hp
              have HE : Box (decodeL s.data.toList = ([], 0, c)) := box (by rw [HL.out, ht])
              have hcn : (c != 0) = true := by rw [bne_iff_ne]; exact fun e => hc0 e
              clear ht hc0
              go_wp2
              go_ret3
              exact ⟨by rw [HE.out]; rfl, B2.out⟩
            · rw [ht] at hp
              obtain ⟨rfl, hs2⟩ := hp
              have hst := fun n => Own.str (Own.drewN (n := n) O2.out)
              have c2 := hs2.1
              have hr2l : (bs r2).size ≤ 4000000 := by rw [bs_size]; exact Nat.le_trans (trail_le ht) hrz
              have HE : Box (decodeL s.data.toList = (b, (s.size : Int) - ((bs r2).size : Int), 0)) := box (by rw [HL.out, ht, bs_size, hz])
              clear ht
              go_wp2
              go_quiet (fail)
              go_wp2
              go_ret3
              refine ⟨?_, B2.out.trans ((below_drewN _ _).mono B2.out.size)⟩
              rw [HE.out]; rfl
          · have h0i : ((n : Int) == 0) = false := by rw [beq_eq_false_iff_ne]; omega
            have hnz : n ≤ 100000 := by omega
            have hck := ck_dataL hn hsz' h5 h0
            rcases hd : dataL n r with e0 | ⟨d, r2⟩
            · have HE : Box (decodeL s.data.toList = ([], 0, e0)) := box (dec_bad HC.out (by rw [hck, hd]))
              have HD : Box (lineV (dataL n r) = .tuple #[.string ⟨#[]⟩, .string ⟨#[]⟩, .int .i64 e0]) := box (by rw [hd]; rfl)
              have he := data_err hd
              clear hn hr0' hsz' h5 hck hd
              rcases he with rfl | rfl
              all_goals
                go_wp2_with fail
                refine (next5_is hy S0 hr0 hr1 HV HR).mono ?_; rintro e w1 ⟨rfl, hs1, ho1⟩
                have B1 := box (BL.out.trans (ho1.below (Nat.le_refl _) BL.out.size))
                have c1 := hs1.1
                clear ho1
                go_wp2_with fail
                refine (data5_is hrz hnz HD).mono ?_; rintro e w2 ⟨rfl, rfl⟩
                go_wp2
                go_ret3
                exact ⟨by rw [HE.out]; rfl, B1.out⟩
            · obtain ⟨hd1, hd2, hd3⟩ := data_ok hd
              have HD : Box (lineV (dataL n r) = .tuple #[.string (bs d), .string (bs r2), .int .i64 0]) := box (by rw [hd]; rfl)
              obtain ⟨g', rfl⟩ : ∃ g', gk = g' + 1 := ⟨gk - 1, by omega⟩
              have HC2 := box (HC.out.trans (chunks_data (by rw [hck, hd])))
              have hr2z : (bs r2).size ≤ 4000000 := by rw [bs_size]; omega
              have hdz : (bs d).size = n := by rw [bs_size]; exact hd1
              have hbn : b.length + (bs d).size < 8589934592 := by omega
              have HLB : Box ((b ++ (bs d).data.toList).length ≤ 100000) := box (by rw [bs_toList, List.length_append]; omega)
              have HG : Box ((bs r2).data.toList.length ≤ g') := box (by rw [bs_toList]; omega)
              clear hn hr0' hsz' h5 hck hd hd1 hd2 hd3
              go_wp2_with fail
              refine (next5_is hy S0 hr0 hr1 HV HR).mono ?_; rintro e w1 ⟨rfl, hs1, ho1⟩
              have B1 := box (BL.out.trans (ho1.below (Nat.le_refl _) BL.out.size))
              have S1 := box hs1
              have O1 := box (own_only O0.out ho1 (Nat.lt_succ_self _))
              have hsz1 : w.heap.size + 1 ≤ w1.heap.size := Nat.le_trans HSZ.out ho1.size
              have c1 := hs1.1
              clear ho1 hs1
              go_wp2_with fail
              refine (data5_is hrz hnz HD).mono ?_; rintro e w2 ⟨rfl, rfl⟩
              clear c1
              go_wp2_with (at_builtin; refine wpList_append_sb _ rfl (.tmp 38) (.tmp 39) rfl (w.heap.size + 1) _ b rfl O1.out (bs d) rfl hbn hsz1 ?_; intro v' w3 hO3 hb3; have S3 := box (S1.out.below hb3 (Nat.lt_succ_self _)); have c3 := S3.out.1; have f3 := S3.out.2)
              go_roundg g'
              case measure => omega
              case rel =>
                exact ⟨b ++ (bs d).data.toList, bs r2, own_only hO3 ((Only.refl _ _).set _) (Nat.lt_succ_self _), HLB.out, hr2z, HG.out, HC2.out, S3.out.set _, (B1.out.trans (hb3.mono (Nat.le_succ _))).setCell (p := ⟨w.heap.size, 0, none⟩) (Nat.le_refl _) _, by simpa using Nat.le_trans hsz1 hb3.size⟩
end
section
open Go.RowKit
/-- a store of many cells into a row whose mark lies behind its end -/
theorem storeCells_T (P : Program) (g o : Nat) (t : TypeId) (fz : Nat × Nat) : ∀ (vs : List Value) (i : Nat) (cur : Array Value) (w : World), w.heap[g]? = some (.cells cur t fz) → cur.size ≤ fz.1 → o + i + vs.length ≤ cur.size → (∀ v ∈ vs, v.oneCell' = true) →
    (storeCells ⟨g, o, none⟩ vs i).run P w = .ok () (w.setRow g (cur.toList.take (o + i) ++ vs ++ cur.toList.drop (o + i + vs.length)).toArray) := by
  intro vs
  induction vs with
  | nil =>
    intro i cur w hg _ _ _
    have e : (cur.toList.take (o + i) ++ [] ++ cur.toList.drop (o + i + ([] : List Value).length)).toArray = cur := by simp
    rw [e, setRow_self w g cur t fz hg]
    rfl
  | cons v rest ih =>
    intro i cur w hg hz hl h1
    have hl' : o + i + (rest.length + 1) ≤ cur.size := hl
    have hi : o + i < cur.size := by omega
    have ha : (⟨g, o, none⟩ : Addr).add i = ⟨g, o + i, none⟩ := by unfold Addr.add; split <;> simp_all
    have hc : w.cell? ⟨g, o + i, none⟩ = some cur[o + i] := by simp [World.cell?, hg, hi]
    have hf : w.frozen? ⟨g, o + i, none⟩ = false := by
      obtain ⟨lo, up⟩ := fz
      simp only at hz
      simp only [World.frozen?, hg, Bool.and_eq_false_iff, decide_eq_false_iff_not]
      left; omega
    have hst : (store ((⟨g, o, none⟩ : Addr).add i) v).run P w = .ok () (w.setRow g (cur.setIfInBounds (o + i) v)) := by
      rw [ha, run_store P w _ v _ (h1 v (by simp)), hc]
      simp [hf, setCell_eq_setRow w g (o + i) cur t fz v hg]
    have next := ih (i + 1) (cur.setIfInBounds (o + i) v) (w.setRow g (cur.setIfInBounds (o + i) v)) (setRow_heap w g cur _ t _ hg) (by simpa using hz) (by simp; omega) (fun x hx => h1 x (by simp [hx]))
    have seg := list_seg_step cur.toList (o + i) v rest (by simpa using hl')
    simp only [storeCells, Sem.run_bind, hst, Result.andThen_ok, next, setRow_setRow]
    congr 3
    simpa [Array.toList_setIfInBounds, Nat.add_assoc] using seg
def OwnT (w : World) (B : Nat) (v : Value) (l : List UInt8) : Prop :=
  Own w B v l ∨ ∃ g cap cur fz, v = .slice (some ⟨g, 0, none⟩) l.length cap ∧ B ≤ g ∧ w.heap[g]? = some (.cells cur 5 fz) ∧ cur.size ≤ fz.1 ∧ l.length ≤ cap ∧ cap ≤ maxLen ∧ cur.size = cap ∧ cur.toList.take l.length = l.map bv
section
variable {w w' : World} {B : Nat} {v : Value} {l : List UInt8}
theorem OwnT.block (h : OwnT w B v l) : ∀ k, v.ownBlock = some k → B ≤ k := by
  rcases h with h | ⟨g, cap, cur, fz, rfl, hb, _⟩
  · exact h.block
  · intro k hk; simp [Value.ownBlock] at hk; omega
theorem OwnT.below (h : OwnT w B v l) (hb : Below w.heap.size w w') : OwnT w' B v l := by
  rcases h with h | ⟨g, cap, cur, fz, hv, hB, hg, r⟩
  · exact .inl (own_below h hb)
  · have hlt : g < w.heap.size := (Array.getElem?_eq_some_iff.1 hg).1
    exact .inr ⟨g, cap, cur, fz, hv, hB, by rw [hb.block g hlt]; exact hg, r⟩
theorem OwnT.slice (h : OwnT w B v l) : ∃ a cap, v = .slice a l.length cap := by
  rcases h with h | ⟨g, cap, cur, fz, rfl, _⟩
  · exact Own.slice h
  · exact ⟨_, cap, rfl⟩
/-- '[]byte(s)' -/
theorem OwnT.new (s : ByteArray) (w : World) (hs : s.size ≤ 9000000) : ∃ cap W, (convert 9 104 (.string s)).run Tryz.prog w = .ok (.slice (some ⟨w.heap.size, 0, none⟩) s.size cap) W ∧ OwnT W w.heap.size (.slice (some ⟨w.heap.size, 0, none⟩) s.size cap) s.data.toList ∧ Below w.heap.size w W := by
  have hz : s.data.toList.length = s.size := by simp
  refine ⟨_, _, run_bytes_of_string (P := Tryz.prog) w 9 104 5 s Tryz.underlying9 Tryz.underlying104 Tryz.underlying5, ?_, (Below.refl _ _).drew.alloc (Nat.le_refl _) _⟩
  have hge := grownCap_ge w s.size 0 5
  have hle := grownCap_le_maxLen w s.size 0 5 (by unfold maxLen; omega)
  have hsz : (bytesRow s (grownCap w s.size 0 5)).size = grownCap w s.size 0 5 := by
    unfold bytesRow
    have : s.data.size = s.size := rfl
    simp; omega
  obtain ⟨C, hC⟩ : ∃ C, bytesRow s (grownCap w s.size 0 5) = C := ⟨_, rfl⟩
  have hp : (w.drew.alloc (.cells C 5 (C.size, C.size + 1))).heap[w.heap.size]? = some (.cells C 5 (C.size, C.size + 1)) := by
    show (w.heap.push (.cells C 5 (C.size, C.size + 1)))[w.heap.size]? = _; simp
  rw [hC] at hsz
  rw [hC]
  refine .inr ⟨w.heap.size, _, C, (C.size, C.size + 1), by rw [hz], Nat.le_refl _, hp, Nat.le_refl _, by rw [hz]; exact hge, hle, hsz, ?_⟩
  rw [hz, ← hC]
  unfold bytesRow
  rw [Array.toList_append, List.take_append_of_le_length (by simp), Array.toList_map, List.take_of_length_le (by simp)]
  rfl
/-- 'string(v)' -/
theorem OwnT.str (h : OwnT w B v l) : (convert 104 9 v).run Tryz.prog w = .ok (.string ⟨l.toArray⟩) w := by
  rcases h with h | ⟨g, cap, cur, fz, rfl, hb, hg, hz, hlc, hcm, hcs, htk⟩
  · exact Own.str h
  · refine run_convert_bytes_back w 104 9 5 ⟨g, 0, none⟩ cap l Tryz.underlying104 Tryz.underlying5 Tryz.underlying9 fun j hj => ?_
    have ea : (⟨g, 0, none⟩ : Addr).add j = ⟨g, j, none⟩ := by unfold Addr.add; split <;> simp_all
    have e := congrArg (fun q => q[j]?) htk
    simp only [List.getElem?_take, if_pos hj, List.getElem?_map, List.getElem?_eq_getElem hj, Option.map_some] at e
    rw [ea]
    simp only [World.cell?, hg]
    simpa [bv] using e
end
/-- append of a string's bytes -/
theorem wpList_append_sbT (w : World) {ops : Array Oper} {rest : List Oper} {o : Oper} {a : Act} {Q : Exit → Act → World → Prop} (hgd : o.guard = none) (sl x : Operand)
    (ho : o.op = .call { callee := .builtin .append, args := #[sl, x], argTypes := #[104, 9] })
    (B : Nat) (v : Value) (l : List UInt8) (hs : a.eval sl = v) (hown : OwnT w B v l) (s : ByteArray) (hx : a.eval x = .string s) (hl : l.length + s.size < 8589934592) (hB : B ≤ w.heap.size)
    (h : ∀ v' w', OwnT w' B v' (l ++ s.data.toList) → Below B w w' → wpList Tryz.prog ops Q rest (a.put o.dst v') w') : wpList Tryz.prog ops Q (o :: rest) a w := by
  rcases hown with hw | ⟨g, cap, cur, fz, rfl, hb, hg, hz, hlc, hcm, hcs, htk⟩
  · exact wpList_append_sb w hgd sl x ho B v l hs hw s hx hl hB fun v' w' h1 h2 => h v' w' (.inl h1) h2
  · obtain ⟨i0, hi0, hz0, hz1, hz2⟩ := info_parts info_u8
    have e : (l ++ s.data.toList).length = l.length + s.size := by rw [List.length_append]; simp
    have hsz : (Lib.strCells s).length = s.size := Lib.strCells_length s
    have hcell : ∀ j u, (l.map bv)[j]? = some u → w.cell? ((⟨g, 0, none⟩ : Addr).add j) = some u := by
      intro j u hu
      have ea : (⟨g, 0, none⟩ : Addr).add j = ⟨g, j, none⟩ := by unfold Addr.add; split <;> simp_all
      have hj : j < l.length := by
        rcases Nat.lt_or_ge j l.length with q | q
        · exact q
        · rw [List.getElem?_eq_none (by simpa using q)] at hu; cases hu
      have e := congrArg (fun q => q[j]?) htk
      simp only [List.getElem?_take, if_pos hj] at e
      rw [ea]
      simp only [World.cell?, hg]
      rw [hu] at e
      simpa using e
    suffices hr : ∃ v' w', (Builtin.append_ #[104, 9] o.type #[.slice (some ⟨g, 0, none⟩) l.length cap, .string s]).run Tryz.prog w = .ok v' w' ∧ OwnT w' B v' (l ++ s.data.toList) ∧ Below B w w' by
      obtain ⟨v', w', hr, h2, h3⟩ := hr
      refine wpList_plain hgd fun K hK => ?_
      unfold Oper.wp execOp
      simp only [ho, resolve, invoke, builtin, Sem.run_bind, Sem.run_pure, Result.andThen_ok, List.map_toArray, List.map_cons, List.map_nil, hs, hx, hr]
      exact hK _ _ (h v' w' h2 h3)
    by_cases hroom : l.length + s.size ≤ cap
    · have hf := Lib.run_firstCells_string (P := Tryz.prog) w 1 s
      have hst := storeCells_T Tryz.prog g l.length 5 fz (Lib.strCells s) 0 cur w hg hz (by rw [hsz]; omega) (Lib.strCells_oneCell s)
      simp only [Nat.add_zero, hsz] at hst
      have hr : (Builtin.append_ #[104, 9] o.type #[.slice (some ⟨g, 0, none⟩) l.length cap, .string s]).run Tryz.prog w = .ok (.slice (some ⟨g, 0, none⟩) (l.length + s.size) cap) (w.setRow g (cur.toList.take l.length ++ Lib.strCells s ++ cur.toList.drop (l.length + s.size)).toArray) := by
        simp [Builtin.append_, run_underlying Tryz.underlying104, run_underlying Tryz.underlying9, sizeOf, typeInfo, hi0, hz1, Builtin.lenOf, hroom, hf, Addr.add_lit, hst]
      refine ⟨_, _, hr, .inr ⟨g, cap, _, fz, by rw [e], hb, setRow_heap w g cur _ 5 _ hg, ?_, by rw [e]; exact hroom, hcm, ?_, ?_⟩, ⟨rfl, rfl, rfl, by simp, fun k hk => setRow_other w g k _ (by omega)⟩⟩
      · simp [hsz]; omega
      · simp [hsz]; omega
      · rw [e, htk, str_cells, ← List.map_append, List.take_append_of_le_length (by rw [List.length_map, e]; exact Nat.le_refl _), List.take_of_length_le (by rw [List.length_map, e]; exact Nat.le_refl _)]
    · have hr := Lib.run_append_grow_string (P := Tryz.prog) w 104 9 o.type 5 i0 (.int .u8 0) Tryz.underlying104 Tryz.underlying9 hi0 hz0 ⟨g, 0, none⟩ l.length cap (l.map bv) (by rw [hz1]; simp) hcell s (by omega) (by omega) (by rw [hz2]; exact growslice_fits (by omega) (by omega))
      have hge := grownCap_ge w (l.length + s.size) cap 5
      have hcm2 := grownCap_le_maxLen w (l.length + s.size) cap 5 (by unfold maxLen; omega)
      refine ⟨_, _, hr, .inl ?_, (Below.refl _ _).drew.alloc hB _⟩
      unfold Own
      rw [e]
      refine ⟨by rw [List.length_map, e]; simp, .inr ⟨w.heap.size, _, _, rfl, hB, heap_alloc_new w.drew _, hge, hcm2, ?_, ?_⟩⟩
      · have hz1 : (Value.int IntKind.u8 0).cells.size = 1 := rfl
        simp only [Array.size_append, List.size_toArray, size_zeroCells, hz1, List.length_map, hsz]
        omega
      · rw [str_cells, List.map_append]
        simp only [Array.toList_append]
        rw [List.take_append_of_le_length (by simp), List.take_of_length_le (by simp)]
end
section
theorem pre_cases {p a b : List UInt8} (h : p <+: a ++ b) : (p <+: a ∧ p.length < a.length) ∨ ∃ q, p = a ++ q ∧ q <+: b := by
  by_cases hl : p.length < a.length
  · left
    refine ⟨?_, hl⟩
    exact List.prefix_of_prefix_length_le h (List.prefix_append a b) (by omega)
  · right
    have ha : a <+: p := List.prefix_of_prefix_length_le (List.prefix_append a b) h (by omega)
    obtain ⟨q, rfl⟩ := ha
    exact ⟨q, rfl, (List.prefix_append_right_inj a).mp h⟩
theorem pre_two2 {p b : List UInt8} (h : p <+: 13 :: 10 :: b) : p = [] ∨ p = [13] ∨ ∃ q, p = 13 :: 10 :: q ∧ q <+: b := by
  match p, h with
  | [], _ => exact .inl rfl
  | [c], h =>
    rw [List.cons_prefix_cons] at h
    exact .inr (.inl (by rw [h.1]))
  | c :: d :: q, h =>
    rw [List.cons_prefix_cons, List.cons_prefix_cons] at h
    exact .inr (.inr ⟨q, by rw [h.1, h.2.1], h.2.2⟩)
theorem pre_all {p a : List UInt8} {P : UInt8 → Prop} (h : p <+: a) (ha : ∀ c ∈ a, P c) : ∀ c ∈ p, P c := fun c hc => ha c (h.subset hc)
theorem line_eol {n v : List UInt8} (h : validL n v = true) : (∀ c ∈ lineL n v, eolB c = true) ∧ lineL n v ≠ [] := by
  obtain ⟨h1, h2, h3, h4⟩ := valid_parts h
  have hn : ∀ c ∈ n, eolB c = true := by
    unfold tokL at h1
    simp only [Bool.and_eq_true] at h1
    intro c hc
    have q := List.all_eq_true.mp h1.2 c hc
    have key : ∀ x : Fin 256, tokI (x.1 : Nat) = true → eolB (UInt8.ofNat x.1) = true := by decide +kernel
    have := key ⟨c.toNat, c.toNat_lt⟩ q
    simpa using this
  have hv : ∀ c ∈ v, eolB c = true := by
    intro c hc
    exact text_eol (List.all_eq_true.mp h2 c hc)
  unfold lineL
  split
  · refine ⟨fun c hc => ?_, by simp⟩
    rcases List.mem_append.mp hc with e | e
    · exact hn c e
    · simp at e; rw [e]; decide
  · refine ⟨fun c hc => ?_, by simp⟩
    rcases List.mem_append.mp hc with e | e
    · rcases List.mem_append.mp e with e | e
      · exact hn c e
      · simp at e; rcases e with e | e <;> rw [e] <;> decide
    · exact hv c e
end
section
abbrev F := ByteArray × ByteArray
/-- has the name -/
def nmd (nm : ByteArray) (p : F) : Bool := foldL p.1.data.toList nm.data.toList
def getL (nm : ByteArray) (L : List F) : List ByteArray := (L.filter (nmd nm)).map (·.2)
def remL (nm : ByteArray) (L : List F) : List F := L.filter (fun p => !nmd nm p)
def okF (p : F) : Bool := decide (p.1.size ≤ 300) && decide (p.2.size ≤ 300)
def keepF (L : List F) : Bool := L.all okF && decide (L.length ≤ 70)
theorem take_next {α : Type} {L : List α} {k : Nat} (h : k < L.length) : L.take (k + 1) = L.take k ++ [L[k]] := List.take_succ_eq_append_getElem h
theorem keep_more {L : List F} {k : Nat} (h : k < L.length) (ha : (L.take k).all okF = true) (h1 : L[k].1.size ≤ 300) (h2 : L[k].2.size ≤ 300) : (L.take (k + 1)).all okF = true := by
  rw [take_next h, List.all_append, ha]
  simp [okF, h1, h2]
theorem keep_bad {L : List F} {k : Nat} (h : k < L.length) (h1 : ¬ (L[k].1.size ≤ 300 ∧ L[k].2.size ≤ 300)) : keepF L = false := by
  have : L.all okF = false := by
    rw [← Bool.not_eq_true]; intro ha
    have := List.all_eq_true.mp ha L[k] (List.getElem_mem h)
    simp only [okF, Bool.and_eq_true, decide_eq_true_eq] at this
    exact h1 this
  unfold keepF; rw [this]; rfl
theorem keep_long {L : List F} (h : ¬ L.length ≤ 70) : keepF L = false := by unfold keepF; simp [h]
theorem keep_end {L : List F} (ha : (L.take L.length).all okF = true) (h : L.length ≤ 70) : keepF L = true := by
  rw [List.take_length] at ha
  unfold keepF; rw [ha]; simp [h]
theorem keep_parts {L : List F} (h : keepF L = true) : L.length ≤ 70 ∧ ∀ i (hi : i < L.length), L[i].1.size ≤ 300 ∧ L[i].2.size ≤ 300 := by
  unfold keepF at h
  simp only [Bool.and_eq_true, decide_eq_true_eq] at h
  refine ⟨h.2, fun i hi => ?_⟩
  have := List.all_eq_true.mp h.1 L[i] (List.getElem_mem hi)
  simpa [okF] using this
theorem split_at {α : Type} {L : List α} {k : Nat} (h : k < L.length) : L = L.take k ++ L[k] :: L.drop (k + 1) := by
  rw [← List.drop_eq_getElem_cons h, List.take_append_drop]
end
end Go.Proofs.YtjabcfabenobiaaGreat.Asc
