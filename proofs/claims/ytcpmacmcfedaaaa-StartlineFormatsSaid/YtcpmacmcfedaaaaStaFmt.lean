/- The contracts of the two Format functions of layer 2 and of the reference's. -/
import Derived.Test.YtcpmacmcfedaaaaStaRef2
import Derived.Test.YtcpmacmcfedaaaaStaSpec3
import Derived.Test.YtcpmacmcfedaaaaAscRDec
set_option linter.unusedVariables false
set_option linter.unusedSimpArgs false
namespace Go.Proofs.Ytcpmacmcfedaaaa.Asc
open Go.RowKit

theorem decF_size : ∀ f m acc, (decF f m acc).length ≤ f + acc.length := fun f => by
  induction f with
  | zero => intro m acc; simp [decF]
  | succ f ih =>
    intro m acc
    unfold decF; split
    · simp; omega
    · have := ih (m / 10) (digB m :: acc)
      simp at this; omega
theorem decL_len (n : Int) : (decL n).length ≤ 21 := by
  unfold decL; split
  · have := decF_size 20 n.natAbs []; simp at this ⊢; omega
  · have := decF_size 20 n.natAbs []; simp at this ⊢; omega

theorem fv_bs (n : Int) : (⟨#[72, 84, 84, 80, 47, 49, 46]⟩ : ByteArray) ++ ⟨(decL n).toArray⟩ = bs (http7 ++ decL n) := by
  apply ByteArray.ext
  rw [ByteArray.data_append]
  simp [bs, http7]
theorem fv_size (n : Int) : (bs (http7 ++ decL n)).size ≤ 28 := by rw [bs_size, List.length_append]; have := decL_len n; simp [http7]; omega
theorem formatVersion_any (n : Int) (w : World) (h1 : Box (InI64 n)) :
    Calls Try.prog 30 #[.int .i64 n] w fun e w' => e = .returned (.string (bs (http7 ++ decL n))) ∧ Below w.heap.size w w' := by
  have hd := decL_len n
  go_enter Try.func30, Try.ntmps30
  go_wp2_with fail
  refine (Decimal_any _ _ h1.out).mono ?_; rintro e w1 ⟨rfl, hb1⟩
  go_wp2
  go_ret
  refine ⟨?_, hb1⟩
  show Ending.returned (.string ((⟨#[72, 84, 84, 80, 47, 49, 46]⟩ : ByteArray) ++ ⟨(decL n).toArray⟩)) = _
  rw [fv_bs]

theorem line_bs (m t : ByteArray) (n : Int) : m ++ ⟨#[32]⟩ ++ t ++ ⟨#[32]⟩ ++ bs (http7 ++ decL n) = bs (reqLine m.data.toList t.data.toList n) := by
  apply ByteArray.ext
  simp [ByteArray.data_append, bs, reqLine]

theorem line_size (m t : ByteArray) (n : Int) (hm : m.size ≤ 3000) (ht : t.size ≤ 3000) : (bs (reqLine m.data.toList t.data.toList n)).size ≤ maxLen := by
  have h1 := len_of m
  have h2 := len_of t
  have h3 := decL_len n
  rw [bs_size]; unfold maxLen; simp [reqLine, http7]; omega
theorem reqV_mk (a b : List UInt8) (v e : Int) : reqV (a, b, v, e) = .tuple #[.string (bs a), .string (bs b), .int .i64 v, .int .i64 e] := rfl
theorem fmtReq_no {m t a b : List UInt8} {n v e : Int} (h : reqL (reqLine m t n) = (a, b, v, e)) (hn : ¬ (a, b, v, e) = (m, t, n, 0)) : fmtReqL m t n = [] := by
  unfold fmtReqL; rw [if_neg (by rw [h]; exact hn)]
theorem FormatRequest_yes (m t : ByteArray) (n : Int) (w : World) (hm : m.size ≤ 3000) (ht : t.size ≤ 3000) (h1 : Box (InI64 n)) (HQ : Box (reqL (reqLine m.data.toList t.data.toList n) = (m.data.toList, t.data.toList, n, 0))) :
    Calls Try.prog 13 #[.string m, .string t, .int .i64 n] w fun e w' => e = .returned (.string (bs (fmtReqL m.data.toList t.data.toList n))) ∧ Below w.heap.size w w' := by
  have hv := fv_size n
  have HZ := box (line_size m t n hm ht)
  go_enter Try.func13, Try.ntmps13
  go_wp2_with fail
  refine (formatVersion_any _ _ h1).mono ?_; rintro e w1 ⟨rfl, hb1⟩
  go_wp2_with fail
  rw [line_bs]
  refine (ParseRequest_any _ _ HZ.out).mono ?_; rintro e w2 ⟨rfl, hb2⟩; rw [bs_toList, HQ.out, reqV_mk, ← bs_of, ← bs_of]
  go_wp2
  go_ret
  refine ⟨?_, hb1.trans (hb2.mono hb1.size)⟩
  unfold fmtReqL; rw [if_pos HQ.out]; rfl
theorem FormatRequest_no (m t : ByteArray) (n : Int) (w : World) (hm : m.size ≤ 3000) (ht : t.size ≤ 3000) (h1 : Box (InI64 n)) (a b : List UInt8) (v e0 : Int) (HQ : Box (reqL (reqLine m.data.toList t.data.toList n) = (a, b, v, e0))) (HN : Box (¬ (a, b, v, e0) = (m.data.toList, t.data.toList, n, 0))) :
    Calls Try.prog 13 #[.string m, .string t, .int .i64 n] w fun e w' => e = .returned (.string (bs (fmtReqL m.data.toList t.data.toList n))) ∧ Below w.heap.size w w' := by
  have hv := fv_size n
  have HZ := box (line_size m t n hm ht)
  go_enter Try.func13, Try.ntmps13
  go_wp2_with fail
  refine (formatVersion_any _ _ h1).mono ?_; rintro e w1 ⟨rfl, hb1⟩
  go_wp2_with fail
  rw [line_bs]
  refine (ParseRequest_any _ _ HZ.out).mono ?_; rintro e w2 ⟨rfl, hb2⟩; rw [bs_toList, HQ.out, reqV_mk]
  have b2 := hb1.trans (hb2.mono hb1.size)
  clear hb1 hb2
  go_wp2
  · go_ret
    exact ⟨by rw [fmtReq_no HQ.out HN.out]; rfl, b2⟩
  · have e1 : e0 = 0 := by assumption
    have e2 : (bs a).toList = m.toList := by assumption
    have e3 : (bs b).toList = t.toList := by assumption
    have e4 : (v != n) = false := by assumption
    rw [toList_bs, toList_data] at e2 e3
    exact absurd (by rw [e1, e2, e3, show v = n from by simpa using e4]) HN.out
  all_goals
    go_ret
    exact ⟨by rw [fmtReq_no HQ.out HN.out]; rfl, b2⟩
theorem FormatRequest_any (m t : ByteArray) (n : Int) (w : World) (hm : m.size ≤ 3000) (ht : t.size ≤ 3000) (h1 : Box (InI64 n)) :
    Calls Try.prog 13 #[.string m, .string t, .int .i64 n] w fun e w' => e = .returned (.string (bs (fmtReqL m.data.toList t.data.toList n))) ∧ Below w.heap.size w w' := by
  obtain ⟨a, b, v, e0, hq⟩ : ∃ a b v e0, reqL (reqLine m.data.toList t.data.toList n) = (a, b, v, e0) := ⟨_, _, _, _, rfl⟩
  by_cases h : (a, b, v, e0) = (m.data.toList, t.data.toList, n, 0)
  · exact FormatRequest_yes m t n w hm ht h1 (box (hq.trans h))
  · exact FormatRequest_no m t n w hm ht h1 a b v e0 (box hq) (box h)

theorem rline_bs (m t : ByteArray) (n : Int) : m ++ ⟨#[32]⟩ ++ t ++ ⟨#[32, 72, 84, 84, 80, 47, 49, 46]⟩ ++ ⟨(decL n).toArray⟩ = bs (reqLine m.data.toList t.data.toList n) := by
  apply ByteArray.ext
  simp [ByteArray.data_append, bs, reqLine, http7]
theorem rFormatRequest_yes (m t : ByteArray) (n : Int) (w : World) (h0 : 0 ≤ n) (hn1 : n ≤ 1) (hm : m.size ≤ 2000) (ht : t.size ≤ 2000) (h1 : Box (InI64 n)) (HQ : Box (reqL (reqLine m.data.toList t.data.toList n) = (m.data.toList, t.data.toList, n, 0))) :
    Calls Try.prog 14 #[.string m, .string t, .int .i64 n] w fun e w' => e = .returned (.string (bs (fmtReqL m.data.toList t.data.toList n))) ∧ Below w.heap.size w w' := by
  have hv := decL_len n
  have HZ := box (line_size m t n (by omega) (by omega))
  go_enter Try.func14, Try.ntmps14
  go_wp2_with fail
  refine (rDecimal_any _ _ h1.out).mono ?_; rintro e w1 ⟨rfl, hb1⟩
  go_wp2_with fail
  rw [rline_bs]
  refine (rParseRequest_any _ _ HZ.out).mono ?_; rintro e w2 ⟨rfl, hb2⟩; rw [bs_toList, HQ.out, reqV_mk, ← bs_of, ← bs_of]
  go_wp2
  go_ret
  refine ⟨?_, hb1.trans (hb2.mono hb1.size)⟩
  unfold fmtReqL; rw [if_pos HQ.out]; rfl
theorem rFormatRequest_no (m t : ByteArray) (n : Int) (w : World) (h0 : 0 ≤ n) (hn1 : n ≤ 1) (hm : m.size ≤ 2000) (ht : t.size ≤ 2000) (h1 : Box (InI64 n)) (a b : List UInt8) (v e0 : Int) (HQ : Box (reqL (reqLine m.data.toList t.data.toList n) = (a, b, v, e0))) (HN : Box (¬ (a, b, v, e0) = (m.data.toList, t.data.toList, n, 0))) :
    Calls Try.prog 14 #[.string m, .string t, .int .i64 n] w fun e w' => e = .returned (.string (bs (fmtReqL m.data.toList t.data.toList n))) ∧ Below w.heap.size w w' := by
  have hv := decL_len n
  have HZ := box (line_size m t n (by omega) (by omega))
  go_enter Try.func14, Try.ntmps14
  go_wp2_with fail
  refine (rDecimal_any _ _ h1.out).mono ?_; rintro e w1 ⟨rfl, hb1⟩
  go_wp2_with fail
  rw [rline_bs]
  refine (rParseRequest_any _ _ HZ.out).mono ?_; rintro e w2 ⟨rfl, hb2⟩; rw [bs_toList, HQ.out, reqV_mk]
  have b2 := hb1.trans (hb2.mono hb1.size)
  clear hb1 hb2
  go_wp2
  · go_ret
    exact ⟨by rw [fmtReq_no HQ.out HN.out]; rfl, b2⟩
  · have e1 : e0 = 0 := by assumption
    have e2 : (bs a).toList = m.toList := by assumption
    have e3 : (bs b).toList = t.toList := by assumption
    have e4 : (v != n) = false := by assumption
    rw [toList_bs, toList_data] at e2 e3
    exact absurd (by rw [e1, e2, e3, show v = n from by simpa using e4]) HN.out
  all_goals
    go_ret
    exact ⟨by rw [fmtReq_no HQ.out HN.out]; rfl, b2⟩
theorem rFormatRequest_any (m t : ByteArray) (n : Int) (w : World) (hm : m.size ≤ 3000) (ht : t.size ≤ 3000) (h1 : Box (InI64 n)) :
    Calls Try.prog 14 #[.string m, .string t, .int .i64 n] w fun e w' => e = .returned (.string (bs (fmtReqL m.data.toList t.data.toList n))) ∧ Below w.heap.size w w' := by
  by_cases h0 : n < 0
  · go_enter Try.func14, Try.ntmps14
    go_wp2
    go_ret
    exact ⟨by rw [fmtReq_min (.inl h0)]; rfl, Below.refl _ _⟩
  · by_cases h2 : 1 < n
    · go_enter Try.func14, Try.ntmps14
      go_wp2
      go_ret
      exact ⟨by rw [fmtReq_min (.inr h2)]; rfl, Below.refl _ _⟩
    · by_cases h3 : 2000 < m.size
      · go_enter Try.func14, Try.ntmps14
        go_wp2
        go_ret
        exact ⟨by rw [fmtReq_long (.inl (long_of h3))]; rfl, Below.refl _ _⟩
      · by_cases h4 : 2000 < t.size
        · go_enter Try.func14, Try.ntmps14
          go_wp2
          go_ret
          exact ⟨by rw [fmtReq_long (.inr (long_of h4))]; rfl, Below.refl _ _⟩
        · obtain ⟨a, b, v, e0, hq⟩ : ∃ a b v e0, reqL (reqLine m.data.toList t.data.toList n) = (a, b, v, e0) := ⟨_, _, _, _, rfl⟩
          by_cases h : (a, b, v, e0) = (m.data.toList, t.data.toList, n, 0)
          · exact rFormatRequest_yes m t n w (by omega) (by omega) (by omega) (by omega) h1 (box (hq.trans h))
          · exact rFormatRequest_no m t n w (by omega) (by omega) (by omega) (by omega) h1 a b v e0 (box hq) (box h)
end Go.Proofs.Ytcpmacmcfedaaaa.Asc
