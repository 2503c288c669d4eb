/- The contracts of FormatStatus and of the reference's. -/
import Derived.Test.YtcpmacmcfedaaaaStaFmt
set_option linter.unusedVariables false
set_option linter.unusedSimpArgs false
namespace Go.Proofs.Ytcpmacmcfedaaaa.Asc
open Go.RowKit

theorem sline_bs (n s : Int) (r : ByteArray) : bs (http7 ++ decL n) ++ ⟨#[32]⟩ ++ ⟨(decL s).toArray⟩ ++ ⟨#[32]⟩ ++ r = bs (staLine n s r.data.toList) := by
  apply ByteArray.ext
  simp [ByteArray.data_append, bs, staLine]
theorem rsline_bs (n s : Int) (r : ByteArray) : (⟨#[72, 84, 84, 80, 47, 49, 46]⟩ : ByteArray) ++ ⟨(decL n).toArray⟩ ++ ⟨#[32]⟩ ++ ⟨(decL s).toArray⟩ ++ ⟨#[32]⟩ ++ r = bs (staLine n s r.data.toList) := by
  apply ByteArray.ext
  simp [ByteArray.data_append, bs, staLine, http7]
theorem sline_size (n s : Int) (r : ByteArray) (hr : r.size ≤ 3000) : (bs (staLine n s r.data.toList)).size ≤ maxLen := by
  have h1 := len_of r
  have h2 := decL_len n
  have h3 := decL_len s
  rw [bs_size]; unfold maxLen; simp [staLine, http7]; omega
theorem staV_mk (a b : Int) (c : List UInt8) (e : Int) : staV (a, b, c, e) = .tuple #[.int .i64 a, .int .i64 b, .string (bs c), .int .i64 e] := rfl
theorem fmtSta_not {n s a b e : Int} {r c : List UInt8} (h : staL (staLine n s r) = (a, b, c, e)) (hn : ¬ (a, b, c, e) = (n, s, r, 0)) : fmtStaL n s r = [] := by
  unfold fmtStaL; rw [if_neg (by rw [h]; exact hn)]
theorem FormatStatus_yes (n s : Int) (r : ByteArray) (w : World) (hr : r.size ≤ 3000) (h1 : Box (InI64 n)) (h2 : Box (InI64 s)) (HQ : Box (staL (staLine n s r.data.toList) = (n, s, r.data.toList, 0))) :
    Calls Try.prog 15 #[.int .i64 n, .int .i64 s, .string r] w fun e w' => e = .returned (.string (bs (fmtStaL n s r.data.toList))) ∧ Below w.heap.size w w' := by
  have hv := fv_size n
  have hd := decL_len s
  have HZ := box (sline_size n s r hr)
  go_enter Try.func15, Try.ntmps15
  go_wp2_with fail
  refine (formatVersion_any _ _ h1).mono ?_; rintro e w1 ⟨rfl, hb1⟩
  go_wp2_with fail
  refine (Decimal_any _ _ h2.out).mono ?_; rintro e w2 ⟨rfl, hb2⟩
  have b2 := hb1.trans (hb2.mono hb1.size)
  clear hb1 hb2
  go_wp2_with fail
  rw [sline_bs]
  refine (ParseStatus_any _ _ HZ.out).mono ?_; rintro e w3 ⟨rfl, hb3⟩; rw [bs_toList, HQ.out, staV_mk, ← bs_of]
  go_wp2
  go_ret
  refine ⟨?_, b2.trans (hb3.mono b2.size)⟩
  unfold fmtStaL; rw [if_pos HQ.out]; rfl
theorem FormatStatus_no (n s : Int) (r : ByteArray) (w : World) (hr : r.size ≤ 3000) (h1 : Box (InI64 n)) (h2 : Box (InI64 s)) (a b e0 : Int) (c : List UInt8) (HQ : Box (staL (staLine n s r.data.toList) = (a, b, c, e0))) (HN : Box (¬ (a, b, c, e0) = (n, s, r.data.toList, 0))) :
    Calls Try.prog 15 #[.int .i64 n, .int .i64 s, .string r] w fun e w' => e = .returned (.string (bs (fmtStaL n s r.data.toList))) ∧ Below w.heap.size w w' := by
  have hv := fv_size n
  have hd := decL_len s
  have HZ := box (sline_size n s r hr)
  go_enter Try.func15, Try.ntmps15
  go_wp2_with fail
  refine (formatVersion_any _ _ h1).mono ?_; rintro e w1 ⟨rfl, hb1⟩
  go_wp2_with fail
  refine (Decimal_any _ _ h2.out).mono ?_; rintro e w2 ⟨rfl, hb2⟩
  have b2 := hb1.trans (hb2.mono hb1.size)
  clear hb1 hb2
  go_wp2_with fail
  rw [sline_bs]
  refine (ParseStatus_any _ _ HZ.out).mono ?_; rintro e w3 ⟨rfl, hb3⟩; rw [bs_toList, HQ.out, staV_mk]
  have b3 := b2.trans (hb3.mono b2.size)
  clear b2 hb3
  go_wp2
  · go_ret
    exact ⟨by rw [fmtSta_not HQ.out HN.out]; rfl, b3⟩
  · have e1 : e0 = 0 := by assumption
    have e2 : a = n := by assumption
    have e3 : b = s := by assumption
    have e4 : (!(bs c).toList == r.toList) = false := by assumption
    rw [toList_bs, toList_data] at e4
    exact absurd (by rw [e1, e2, e3, show c = r.data.toList from by simpa using e4]) HN.out
  all_goals
    go_ret
    exact ⟨by rw [fmtSta_not HQ.out HN.out]; rfl, b3⟩
theorem FormatStatus_any (n s : Int) (r : ByteArray) (w : World) (hr : r.size ≤ 3000) (h1 : Box (InI64 n)) (h2 : Box (InI64 s)) :
    Calls Try.prog 15 #[.int .i64 n, .int .i64 s, .string r] w fun e w' => e = .returned (.string (bs (fmtStaL n s r.data.toList))) ∧ Below w.heap.size w w' := by
  obtain ⟨a, b, c, e0, hq⟩ : ∃ a b c e0, staL (staLine n s r.data.toList) = (a, b, c, e0) := ⟨_, _, _, _, rfl⟩
  by_cases h : (a, b, c, e0) = (n, s, r.data.toList, 0)
  · exact FormatStatus_yes n s r w hr h1 h2 (box (hq.trans h))
  · exact FormatStatus_no n s r w hr h1 h2 a b e0 c (box hq) (box h)

theorem rFormatStatus_in (n s : Int) (r : ByteArray) (w : World) (hr : r.size ≤ 2000) (g0 : 0 ≤ n) (g1 : n ≤ 1) (g2 : 100 ≤ s) (g3 : s ≤ 599) (h1 : Box (InI64 n)) (h2 : Box (InI64 s)) :
    Calls Try.prog 16 #[.int .i64 n, .int .i64 s, .string r] w fun e w' => e = .returned (.string (bs (fmtStaL n s r.data.toList))) ∧ Below w.heap.size w w' := by
  have hv := decL_len n
  have hd := decL_len s
  have HZ := box (sline_size n s r (by omega))
  obtain ⟨a, b, c, e0, hq⟩ : ∃ a b c e0, staL (staLine n s r.data.toList) = (a, b, c, e0) := ⟨_, _, _, _, rfl⟩
  have HQ := box hq
  clear hq
  by_cases he : e0 = 0
  · subst he
    have HF := box (fmtSta_ok (r := r.data.toList) g0 g1 g2 g3 (by rw [HQ.out]))
    go_enter Try.func16, Try.ntmps16
    go_wp2_with fail
    refine (rDecimal_any _ _ h1.out).mono ?_; rintro e w1 ⟨rfl, hb1⟩
    go_wp2_with fail
    refine (rDecimal_any _ _ h2.out).mono ?_; rintro e w2 ⟨rfl, hb2⟩
    have b2 := hb1.trans (hb2.mono hb1.size)
    clear hb1 hb2
    go_wp2_with fail
    rw [rsline_bs]
    refine (rParseStatus_any _ _ HZ.out).mono ?_; rintro e w3 ⟨rfl, hb3⟩; rw [bs_toList, HQ.out, staV_mk]
    have b3 := b2.trans (hb3.mono b2.size)
    clear b2 hb3
    go_wp2
    go_ret
    exact ⟨by rw [HF.out]; rfl, b3⟩
  · have HF := box (fmtSta_no (r := r.data.toList) (n := n) (s := s) (by rw [HQ.out]; exact he))
    have hE2 := bne0 he
    clear he
    go_enter Try.func16, Try.ntmps16
    go_wp2_with fail
    refine (rDecimal_any _ _ h1.out).mono ?_; rintro e w1 ⟨rfl, hb1⟩
    go_wp2_with fail
    refine (rDecimal_any _ _ h2.out).mono ?_; rintro e w2 ⟨rfl, hb2⟩
    have b2 := hb1.trans (hb2.mono hb1.size)
    clear hb1 hb2
    go_wp2_with fail
    rw [rsline_bs]
    refine (rParseStatus_any _ _ HZ.out).mono ?_; rintro e w3 ⟨rfl, hb3⟩; rw [bs_toList, HQ.out, staV_mk]
    have b3 := b2.trans (hb3.mono b2.size)
    clear b2 hb3
    go_wp2
    go_ret
    exact ⟨by rw [HF.out]; rfl, b3⟩
theorem rFormatStatus_any (n s : Int) (r : ByteArray) (w : World) (hr : r.size ≤ 3000) (h1 : Box (InI64 n)) (h2 : Box (InI64 s)) :
    Calls Try.prog 16 #[.int .i64 n, .int .i64 s, .string r] w fun e w' => e = .returned (.string (bs (fmtStaL n s r.data.toList))) ∧ Below w.heap.size w w' := by
  by_cases q0 : n < 0
  · go_enter Try.func16, Try.ntmps16
    go_wp2
    go_ret
    exact ⟨by rw [fmtSta_out (.inl q0)]; rfl, Below.refl _ _⟩
  · by_cases q1 : 1 < n
    · go_enter Try.func16, Try.ntmps16
      go_wp2
      go_ret
      exact ⟨by rw [fmtSta_out (.inr (.inl q1))]; rfl, Below.refl _ _⟩
    · by_cases q2 : s < 100
      · go_enter Try.func16, Try.ntmps16
        go_wp2
        go_ret
        exact ⟨by rw [fmtSta_out (.inr (.inr (.inl q2)))]; rfl, Below.refl _ _⟩
      · by_cases q3 : 599 < s
        · go_enter Try.func16, Try.ntmps16
          go_wp2
          go_ret
          exact ⟨by rw [fmtSta_out (.inr (.inr (.inr (.inl q3))))]; rfl, Below.refl _ _⟩
        · by_cases q4 : 2000 < r.size
          · go_enter Try.func16, Try.ntmps16
            go_wp2
            go_ret
            exact ⟨by rw [fmtSta_out (.inr (.inr (.inr (.inr (long_of q4)))))]; rfl, Below.refl _ _⟩
          · exact rFormatStatus_in n s r w (by omega) (by omega) (by omega) (by omega) (by omega) h1 h2
end Go.Proofs.Ytcpmacmcfedaaaa.Asc
