/- The walks of six laws of layer 1: for every input each returns true, and what was in memory stays as it was. -/
import Derived.Test.YtfionelcdjkbeaaAscAwake
import Derived.Test.YtfionelcdjkbeaaAscFold
import Derived.Test.YtfionelcdjkbeaaAscTrim
import Derived.Test.YtfionelcdjkbeaaAscNum
import Derived.Test.YtfionelcdjkbeaaAscRDec
import Derived.Test.YtfionelcdjkbeaaAscQuo
import Derived.Test.YtfionelcdjkbeaaAscSpec3
set_option linter.unusedVariables false
set_option linter.unusedSimpArgs false
namespace Go.Proofs.Ytfionelcdjkbeaa.Asc
open Go.RowKit

theorem inI64 {n : Int} (h : (Lit.int .i64 n).wf = true) : InI64 n := by
  unfold InI64
  simp [Lit.wf, IntKind.min, IntKind.max, IntKind.bits, IntKind.signed] at h
  omega
theorem small {s : ByteArray} {n m : Nat} (h : ¬ n < s.size) (hm : n ≤ m) : Hid (s.size ≤ m) := Lib.hid (by omega)
theorem smallM {s : ByteArray} {n : Nat} (h : ¬ n < s.size) (hn : n ≤ 3000) : Hid (s.size ≤ maxLen) := Lib.hid (by unfold maxLen; omega)

set_option maxHeartbeats 400000 in
theorem cases_walk (a b : ByteArray) (w : World) (ha : a.size ≤ maxLen) (hb : b.size ≤ maxLen) :
    Calls Try.prog 4 #[.string a, .string b] w fun e w' => e = .returned (.bool true) ∧ Below w.heap.size w w' := by
  by_cases h1 : 3000 < a.size
  · unfold maxLen at ha
    clear hb
    go_enter Try.func4, Try.ntmps4
    go_wp2
    go_ret
    exact ⟨rfl, Below.refl _ _⟩
  · by_cases h2 : 3000 < b.size
    · unfold maxLen at ha hb
      go_enter Try.func4, Try.ntmps4
      go_wp2
      go_ret
      exact ⟨rfl, Below.refl _ _⟩
    · have A1 : Hid (a.size ≤ 4294967296) := small h1 (by omega)
      have B1 : Hid (b.size ≤ 4294967296) := small h2 (by omega)
      have A2 := Lib.hid ha
      have B2 := Lib.hid hb
      clear ha hb
      go_enter Try.func4, Try.ntmps4
      go_wp2_with fail
      refine (Lower_any _ _ A1.out).mono ?_; rintro e w1 ⟨rfl, hb1⟩
      go_wp2_with fail
      refine (rLower_any _ _ A1.out).mono ?_; rintro e w2 ⟨rfl, hb2⟩
      have b2 := hb1.trans (hb2.mono hb1.size)
      clear hb1 hb2
      go_wp2_with fail
      refine (Fold_any _ _ _ A2.out B2.out).mono ?_; rintro e w3 ⟨rfl, hb3⟩
      have b3 := b2.trans (hb3.mono b2.size)
      clear hb3 b2
      go_wp2_with fail
      refine (rFold_any _ _ _ A1.out B1.out).mono ?_; rintro e w4 ⟨rfl, hb4⟩
      have b4 := b3.trans (hb4.mono b3.size)
      clear hb4 b3
      go_wp2_with fail
      refine (Trim_any _ _ A2.out).mono ?_; rintro e w5 ⟨rfl, rfl⟩
      go_wp2_with fail
      refine (rTrim_any _ _ A2.out).mono ?_; rintro e w5 ⟨rfl, rfl⟩
      go_wp2_with fail
      refine (awake_any _).mono ?_; rintro e w5 ⟨rfl, hb5⟩
      go_wp2
      go_ret
      exact ⟨rfl, b4.trans (hb5.mono b4.size)⟩

set_option maxHeartbeats 400000 in
theorem numbers_walk (s : ByteArray) (n : Int) (w : World) (hs : s.size ≤ maxLen) (hn : (Lit.int .i64 n).wf = true) :
    Calls Try.prog 5 #[.string s, .int .i64 n] w fun e w' => e = .returned (.bool true) ∧ Below w.heap.size w w' := by
  have HN := Lib.hid (inI64 hn)
  clear hn
  by_cases h1 : 3000 < s.size
  · unfold maxLen at hs
    go_enter Try.func5, Try.ntmps5
    go_wp2
    go_ret
    exact ⟨rfl, Below.refl _ _⟩
  · have A2 := Lib.hid hs
    clear hs
    go_enter Try.func5, Try.ntmps5
    go_wp2_with fail
    refine (Number_any _ _ A2.out).mono ?_; rintro e w1 ⟨rfl, rfl⟩; unfold numT
    go_wp2_with fail
    refine (rNumber_any _ _ A2.out).mono ?_; rintro e w1 ⟨rfl, rfl⟩; unfold numT
    go_wp2_with fail
    refine (Decimal_any _ _ HN.out).mono ?_; rintro e w1 ⟨rfl, hb1⟩
    go_wp2_with fail
    refine (rDecimal_any _ _ HN.out).mono ?_; rintro e w2 ⟨rfl, hb2⟩
    have b2 := hb1.trans (hb2.mono hb1.size)
    clear hb1 hb2
    go_wp2_with fail
    refine (awake_any _).mono ?_; rintro e w5 ⟨rfl, hb5⟩
    go_wp2
    go_ret
    exact ⟨rfl, b2.trans (hb5.mono b2.size)⟩

theorem optV_cases (o : Option (List UInt8)) : ∃ (t : ByteArray) (b : Bool), optV o = .tuple #[.string t, .bool b] := by
  rcases o with _ | r
  · exact ⟨_, _, rfl⟩
  · exact ⟨_, _, rfl⟩

set_option maxHeartbeats 400000 in
theorem quotes_walk (s : ByteArray) (w : World) (hs : s.size ≤ maxLen) :
    Calls Try.prog 6 #[.string s] w fun e w' => e = .returned (.bool true) ∧ Below w.heap.size w w' := by
  by_cases h1 : 3000 < s.size
  · unfold maxLen at hs
    go_enter Try.func6, Try.ntmps6
    go_wp2
    go_ret
    exact ⟨rfl, Below.refl _ _⟩
  · have A1 : Hid (s.size ≤ 1073741824) := small h1 (by omega)
    have A3 : Hid (s.size ≤ 4294967296) := small h1 (by omega)
    clear hs
    obtain ⟨t, b, ho⟩ := optV_cases (unqL s.data.toList)
    have HO := Lib.hid ho
    clear ho
    go_enter Try.func6, Try.ntmps6
    go_wp2_with fail
    refine (Unquote_any _ _ A3.out).mono ?_; rintro e w1 ⟨rfl, hb1⟩; rw [HO.out]
    go_wp2_with fail
    refine (rUnquote_any _ _ A3.out).mono ?_; rintro e w2 ⟨rfl, hb2⟩; rw [HO.out]
    have b2 := hb1.trans (hb2.mono hb1.size)
    clear hb1 hb2
    go_wp2_with fail
    refine (Quote_any _ _ A1.out).mono ?_; rintro e w3 ⟨rfl, hb3⟩
    have b3 := b2.trans (hb3.mono b2.size)
    clear hb3 b2
    go_wp2_with fail
    refine (rQuote_any _ _ A1.out).mono ?_; rintro e w4 ⟨rfl, hb4⟩
    have b4 := b3.trans (hb4.mono b3.size)
    clear hb4 b3
    go_wp2_with fail
    refine (awake_any _).mono ?_; rintro e w5 ⟨rfl, hb5⟩
    go_wp2
    go_ret
    exact ⟨rfl, b4.trans (hb5.mono b4.size)⟩

theorem quoteL_size (s : ByteArray) : (⟨(quoteL s.data.toList).toArray⟩ : ByteArray).size ≤ 2 * s.size + 2 := by
  have h := escL_le s.data.toList
  have h2 : s.data.toList.length = s.size := by simp
  have h3 : (⟨(quoteL s.data.toList).toArray⟩ : ByteArray).size = (escL s.data.toList).length + 2 := by
    show (quoteL s.data.toList).toArray.size = _
    simp [quoteL]
  omega

set_option maxHeartbeats 400000 in
theorem quoted_walk (s : ByteArray) (w : World) (hs : s.size ≤ maxLen) :
    Calls Try.prog 7 #[.string s] w fun e w' => e = .returned (.bool true) ∧ Below w.heap.size w w' := by
  by_cases h1 : 3000 < s.size
  · unfold maxLen at hs
    go_enter Try.func7, Try.ntmps7
    go_wp2
    go_ret
    exact ⟨rfl, Below.refl _ _⟩
  · have A1 : Hid (s.size ≤ 1073741824) := small h1 (by omega)
    have A2 := Lib.hid hs
    have A3 : Hid ((⟨(quoteL s.data.toList).toArray⟩ : ByteArray).size ≤ 4294967296) := Lib.hid (by have := quoteL_size s; omega)
    clear hs
    rcases ht : textL s.data.toList with _ | _
    · have HQ := Lib.hid (unq_quote_not ht)
      go_enter Try.func7, Try.ntmps7
      go_wp2_with fail
      refine (Quote_any _ _ A1.out).mono ?_; rintro e w3 ⟨rfl, hb3⟩
      go_wp2_with fail
      refine (Unquote_any _ _ A3.out).mono ?_; rintro e w1 ⟨rfl, hb1⟩; rw [show (⟨(quoteL s.data.toList).toArray⟩ : ByteArray).data.toList = quoteL s.data.toList from rfl, HQ.out]; unfold optV
      have b3 := hb3.trans (hb1.mono hb3.size)
      clear hb3 hb1
      go_wp2_with fail
      refine (Text_any _ _ A2.out).mono ?_; rintro e w1 ⟨rfl, rfl⟩
      go_wp2_with fail
      refine (awake_any _).mono ?_; rintro e w5 ⟨rfl, hb5⟩
      go_wp2
      go_ret
      exact ⟨rfl, b3.trans (hb5.mono b3.size)⟩
    · have HQ := Lib.hid (unq_quote_text ht)
      go_enter Try.func7, Try.ntmps7
      go_wp2_with fail
      refine (Quote_any _ _ A1.out).mono ?_; rintro e w3 ⟨rfl, hb3⟩
      go_wp2_with fail
      refine (Unquote_any _ _ A3.out).mono ?_; rintro e w1 ⟨rfl, hb1⟩; rw [show (⟨(quoteL s.data.toList).toArray⟩ : ByteArray).data.toList = quoteL s.data.toList from rfl, HQ.out, show optV (some s.data.toList) = .tuple #[.string s, .bool true] from rfl]
      have b3 := hb3.trans (hb1.mono hb3.size)
      clear hb3 hb1
      go_wp2_with fail
      refine (Text_any _ _ A2.out).mono ?_; rintro e w1 ⟨rfl, rfl⟩
      go_wp2_with fail
      refine (awake_any _).mono ?_; rintro e w5 ⟨rfl, hb5⟩
      go_wp2
      go_ret
      exact ⟨rfl, b3.trans (hb5.mono b3.size)⟩

theorem decL_size (n : Int) : (⟨(decL n).toArray⟩ : ByteArray).size ≤ 21 := by
  have h : ∀ f m acc, (decF f m acc).length ≤ f + acc.length := fun f => by
    induction f with
    | zero => intro m acc; simp [decF]
    | succ f ih =>
      intro m acc
      unfold decF; split
      · simp; omega
      · have := ih (m / 10) (digB m :: acc); simp at this; omega
  have h2 := h 20 n.natAbs []
  show (decL n).toArray.size ≤ 21
  rw [List.size_toArray]; unfold decL; split
  · simp at h2 ⊢; omega
  · simp at h2; omega

set_option maxHeartbeats 400000 in
theorem decimals_walk (n : Int) (w : World) (hn : (Lit.int .i64 n).wf = true) :
    Calls Try.prog 9 #[.int .i64 n] w fun e w' => e = .returned (.bool true) ∧ Below w.heap.size w w' := by
  have HN := Lib.hid (inI64 hn)
  have A3 : Hid ((⟨(decL n).toArray⟩ : ByteArray).size ≤ maxLen) := Lib.hid (by have := decL_size n; unfold maxLen; omega)
  clear hn
  by_cases h0 : n < 0
  · have HQ := Lib.hid (num_neg h0)
    go_enter Try.func9, Try.ntmps9
    go_wp2_with fail
    refine (Decimal_any _ _ HN.out).mono ?_; rintro e w1 ⟨rfl, hb1⟩
    go_wp2_with fail
    refine (Number_any _ _ A3.out).mono ?_; rintro e w2 ⟨rfl, rfl⟩; rw [show (⟨(decL n).toArray⟩ : ByteArray).data.toList = decL n from rfl, HQ.out, show numT none = .tuple #[.int .i64 0, .bool false] from rfl]
    go_wp2_with fail
    refine (awake_any _).mono ?_; rintro e w5 ⟨rfl, hb5⟩
    go_wp2
    go_ret
    exact ⟨rfl, hb1.trans (hb5.mono hb1.size)⟩
  · have HQ := Lib.hid (num_dec (n := n) (by omega) (by have := HN.out; unfold InI64 at this; omega))
    go_enter Try.func9, Try.ntmps9
    go_wp2_with fail
    refine (Decimal_any _ _ HN.out).mono ?_; rintro e w1 ⟨rfl, hb1⟩
    go_wp2_with fail
    refine (Number_any _ _ A3.out).mono ?_; rintro e w2 ⟨rfl, rfl⟩; rw [show (⟨(decL n).toArray⟩ : ByteArray).data.toList = decL n from rfl, HQ.out, show numT (some (min n 2147483647)) = .tuple #[.int .i64 (min n 2147483647), .bool true] from rfl]
    go_wp2_with fail
    all_goals
      refine (awake_any _).mono ?_; rintro e w5 ⟨rfl, hb5⟩
      go_wp2
      go_ret
      exact ⟨rfl, hb1.trans (hb5.mono hb1.size)⟩

set_option maxHeartbeats 800000 in
theorem folds_walk (a b c : ByteArray) (w : World) (ha : a.size ≤ maxLen) (hb : b.size ≤ maxLen) (hc : c.size ≤ maxLen) :
    Calls Try.prog 10 #[.string a, .string b, .string c] w fun e w' => e = .returned (.bool true) ∧ Below w.heap.size w w' := by
  by_cases h1 : 1000 < a.size
  · unfold maxLen at ha
    clear hb hc
    go_enter Try.func10, Try.ntmps10
    go_wp2
    go_ret
    exact ⟨rfl, Below.refl _ _⟩
  · by_cases h2 : 1000 < b.size
    · unfold maxLen at ha hb
      clear hc
      go_enter Try.func10, Try.ntmps10
      go_wp2
      go_ret
      exact ⟨rfl, Below.refl _ _⟩
    · by_cases h3 : 1000 < c.size
      · unfold maxLen at ha hb hc
        go_enter Try.func10, Try.ntmps10
        go_wp2
        go_ret
        exact ⟨rfl, Below.refl _ _⟩
      · have A2 := Lib.hid ha
        have B2 := Lib.hid hb
        have C2 := Lib.hid hc
        have A1 : Hid (a.size ≤ 4294967296) := small h1 (by omega)
        have L2 : Hid ((⟨(lowL a.data.toList).toArray⟩ : ByteArray).size ≤ maxLen) := Lib.hid (by show (lowL a.data.toList).toArray.size ≤ maxLen; have := ha; simp [lowL_length]; exact this)
        clear ha hb hc
        have e1 := fold_symm a.data.toList b.data.toList
        have e2 := fold_refl a.data.toList
        have e3 : foldL a.data.toList (⟨(lowL a.data.toList).toArray⟩ : ByteArray).data.toList = true := fold_low a.data.toList
        have E4 : Hid (foldL a.data.toList b.data.toList = true → foldL b.data.toList c.data.toList = true → foldL a.data.toList c.data.toList = true) := Lib.hid fold_trans
        have E1 := Lib.hid e1
        clear e1
        go_enter Try.func10, Try.ntmps10
        go_wp2_with fail
        refine (Fold_any _ _ _ A2.out B2.out).mono ?_; rintro e w1 ⟨rfl, b1⟩
        go_wp2_with fail
        refine (Fold_any _ _ _ B2.out A2.out).mono ?_; rintro e w2 ⟨rfl, hb2⟩; rw [E1.out]
        have b2 := b1.trans (hb2.mono b1.size)
        clear hb2 b1
        go_wp2_with fail
        refine (Fold_any _ _ _ A2.out A2.out).mono ?_; rintro e w3 ⟨rfl, hb3⟩
        have b3 := b2.trans (hb3.mono b2.size)
        clear hb3 b2
        go_wp2_with fail
        refine (Lower_any _ _ A1.out).mono ?_; rintro e w4 ⟨rfl, hb4⟩
        have b4 := b3.trans (hb4.mono b3.size)
        clear hb4 b3
        go_wp2_with fail
        refine (Fold_any _ _ _ A2.out L2.out).mono ?_; rintro e w5 ⟨rfl, hb5⟩
        have b5 := b4.trans (hb5.mono b4.size)
        clear hb5 b4
        go_wp2_with fail
        refine (Fold_any _ _ _ A2.out B2.out).mono ?_; rintro e w6 ⟨rfl, hb6⟩
        have b6 := b5.trans (hb6.mono b5.size)
        clear hb6 b5
        rcases f1 : foldL a.data.toList b.data.toList with _ | _
        · go_wp2_with fail
          refine (awake_any _).mono ?_; rintro e w7 ⟨rfl, hb7⟩
          go_wp2
          go_ret
          exact ⟨rfl, b6.trans (hb7.mono b6.size)⟩
        · go_wp2_with fail
          refine (Fold_any _ _ _ B2.out C2.out).mono ?_; rintro e w7 ⟨rfl, hb7⟩
          have b7 := b6.trans (hb7.mono b6.size)
          clear hb7 b6
          rcases f2 : foldL b.data.toList c.data.toList with _ | _
          · go_wp2_with fail
            refine (awake_any _).mono ?_; rintro e w8 ⟨rfl, hb8⟩
            go_wp2
            go_ret
            exact ⟨rfl, b7.trans (hb8.mono b7.size)⟩
          · have f3 := E4.out f1 f2
            go_wp2_with fail
            refine (Fold_any _ _ _ A2.out C2.out).mono ?_; rintro e w8 ⟨rfl, hb8⟩
            have b8 := b7.trans (hb8.mono b7.size)
            clear hb8 b7
            go_wp2_with fail
            refine (awake_any _).mono ?_; rintro e w9 ⟨rfl, hb9⟩
            go_wp2
            go_ret
            exact ⟨rfl, b8.trans (hb9.mono b8.size)⟩

end Go.Proofs.Ytfionelcdjkbeaa.Asc
