/- The walks of the laws StartlineFormats, StartlineBack and StartlineLong. -/
import Derived.Test.YtcpmacmcfedaaaaStaLaws
import Derived.Test.YtcpmacmcfedaaaaStaFmt2
set_option linter.unusedVariables false
set_option linter.unusedSimpArgs false
namespace Go.Proofs.Ytcpmacmcfedaaaa.Asc
open Go.RowKit

theorem wf64 {n : Int} (h : (Lit.int .i64 n).wf = true) : InI64 n := by
  unfold InI64
  simp [Lit.wf, IntKind.min, IntKind.max, IntKind.bits, IntKind.signed] at h
  omega
theorem formats_in (m t : ByteArray) (n s : Int) (r : ByteArray) (w : World) (hm : m.size ≤ 3000) (ht : t.size ≤ 3000) (hr : r.size ≤ 3000) (hn : Box (InI64 n)) (hs : Box (InI64 s)) :
    Calls Try.prog 5 #[.string m, .string t, .int .i64 n, .int .i64 s, .string r] w fun e w' => e = .returned (.bool true) ∧ Below w.heap.size w w' := by
  have M := box hm
  have T := box ht
  have R := box hr
  go_enter Try.func5, Try.ntmps5
  go_wp2_with fail
  refine (FormatRequest_any _ _ _ _ M.out T.out hn).mono ?_; rintro e w1 ⟨rfl, hb1⟩
  go_wp2_with fail
  refine (rFormatRequest_any _ _ _ _ M.out T.out hn).mono ?_; rintro e w2 ⟨rfl, hb2⟩
  have b2 := hb1.trans (hb2.mono hb1.size)
  clear hb1 hb2
  go_wp2_with fail
  refine (FormatStatus_any _ _ _ _ R.out hn hs).mono ?_; rintro e w3 ⟨rfl, hb3⟩
  have b3 := b2.trans (hb3.mono b2.size)
  clear b2 hb3
  go_wp2_with fail
  refine (rFormatStatus_any _ _ _ _ R.out hn hs).mono ?_; rintro e w4 ⟨rfl, hb4⟩
  have b4 := b3.trans (hb4.mono b3.size)
  clear b3 hb4
  go_wp2_with fail
  refine (awake2_any _).mono ?_; rintro e w5 ⟨rfl, hb5⟩
  go_wp2
  go_ret
  exact ⟨rfl, b4.trans (hb5.mono b4.size)⟩
theorem formats_walk (m t : ByteArray) (n s : Int) (r : ByteArray) (w : World) (hm : m.size ≤ maxLen) (ht : t.size ≤ maxLen) (hn : (Lit.int .i64 n).wf = true) (hs : (Lit.int .i64 s).wf = true) (hr : r.size ≤ maxLen) :
    Calls Try.prog 5 #[.string m, .string t, .int .i64 n, .int .i64 s, .string r] w fun e w' => e = .returned (.bool true) ∧ Below w.heap.size w w' := by
  have HN := box (wf64 hn)
  have HS := box (wf64 hs)
  clear hn hs
  by_cases h1 : 3000 < m.size
  · unfold maxLen at hm
    clear ht hr
    go_enter Try.func5, Try.ntmps5
    go_wp2
    go_ret
    exact ⟨rfl, Below.refl _ _⟩
  · by_cases h2 : 3000 < t.size
    · unfold maxLen at hm ht
      clear hr
      go_enter Try.func5, Try.ntmps5
      go_wp2
      go_ret
      exact ⟨rfl, Below.refl _ _⟩
    · by_cases h3 : 3000 < r.size
      · unfold maxLen at hm ht hr
        go_enter Try.func5, Try.ntmps5
        go_wp2
        go_ret
        exact ⟨rfl, Below.refl _ _⟩
      · exact formats_in m t n s r w (by omega) (by omega) (by omega) HN HS

/-- what is parsed is small -/
theorem req_small {l m t : List UInt8} {v : Int} (h : reqL l = (m, t, v, 0)) : (bs m).size ≤ 3000 ∧ (bs t).size ≤ 3000 ∧ InI64 v := by
  obtain ⟨hl, rfl, rfl, _, _, _, rfl⟩ := req_parts h
  have a := cut1_le 32 l
  have b := cut2_le 32 l
  have c := cut1_le 32 (cut2 32 l)
  refine ⟨by rw [bs_size]; omega, by rw [bs_size]; omega, ?_⟩
  unfold InI64
  rcases ver_min (x := cut2 32 (cut2 32 l)) with q | q <;> omega
theorem sta_small {l r : List UInt8} {n s : Int} (h : staL l = (n, s, r, 0)) : (bs r).size ≤ 3000 ∧ InI64 n ∧ InI64 s := by
  have := sta_range h
  unfold InI64
  rw [bs_size]
  refine ⟨by omega, by omega, by omega⟩
theorem back_in (l : ByteArray) (w : World) (hl : l.size ≤ 3000) (HM : Box (l.size ≤ maxLen)) :
    Calls Try.prog 6 #[.string l] w fun e w' => e = .returned (.bool true) ∧ Below w.heap.size w w' := by
  obtain ⟨m, t, v, e0, hq⟩ : ∃ m t v e0, reqL l.data.toList = (m, t, v, e0) := ⟨_, _, _, _, rfl⟩
  obtain ⟨n, s, r, f0, hp⟩ : ∃ n s r f0, staL l.data.toList = (n, s, r, f0) := ⟨_, _, _, _, rfl⟩
  have HQ := box hq
  have HP := box hp
  by_cases he : e0 = 0
  · subst he
    have hf : ¬ f0 = 0 := by rintro rfl; exact not_both hq hp
    have S := box (req_small hq)
    have B := box (fmtReq_back hq)
    have hF1 := bne0 hf
    have hF2 : (f0 == 0) = false := by simpa using hf
    clear hq hp hf
    go_enter Try.func6, Try.ntmps6
    go_wp2_with fail
    refine (ParseRequest_any _ _ HM.out).mono ?_; rintro e w1 ⟨rfl, hb1⟩; rw [HQ.out, reqV_mk]
    go_wp2_with fail
    refine (ParseStatus_any _ _ HM.out).mono ?_; rintro e w2 ⟨rfl, hb2⟩; rw [HP.out, staV_mk]
    have b2 := hb1.trans (hb2.mono hb1.size)
    clear hb1 hb2
    go_wp2_with fail
    refine (FormatRequest_any _ _ _ _ S.out.1 S.out.2.1 (box S.out.2.2)).mono ?_; rintro e w3 ⟨rfl, hb3⟩; rw [bs_toList, bs_toList, B.out, ← bs_of]
    have b3 := b2.trans (hb3.mono b2.size)
    clear b2 hb3
    go_wp2_with fail
    refine (awake2_any _).mono ?_; rintro e w5 ⟨rfl, hb5⟩
    go_wp2
    go_ret
    exact ⟨rfl, b3.trans (hb5.mono b3.size)⟩
  · by_cases hf : f0 = 0
    · subst hf
      have S := box (sta_small hp)
      have B := box (fmtSta_back hp)
      have hF1 := bne0 he
      have hF2 : (e0 == 0) = false := by simpa using he
      clear hq hp he
      go_enter Try.func6, Try.ntmps6
      go_wp2_with fail
      refine (ParseRequest_any _ _ HM.out).mono ?_; rintro e w1 ⟨rfl, hb1⟩; rw [HQ.out, reqV_mk]
      go_wp2_with fail
      refine (ParseStatus_any _ _ HM.out).mono ?_; rintro e w2 ⟨rfl, hb2⟩; rw [HP.out, staV_mk]
      have b2 := hb1.trans (hb2.mono hb1.size)
      clear hb1 hb2
      go_wp2_with fail
      refine (FormatStatus_any _ _ _ _ S.out.1 (box S.out.2.1) (box S.out.2.2)).mono ?_; rintro e w3 ⟨rfl, hb3⟩; rw [bs_toList, B.out, ← bs_of]
      have b3 := b2.trans (hb3.mono b2.size)
      clear b2 hb3
      go_wp2_with fail
      refine (awake2_any _).mono ?_; rintro e w5 ⟨rfl, hb5⟩
      go_wp2
      go_ret
      exact ⟨rfl, b3.trans (hb5.mono b3.size)⟩
    · have hE1 := bne0 he
      have hE2 : (e0 == 0) = false := by simpa using he
      have hF1 := bne0 hf
      have hF2 : (f0 == 0) = false := by simpa using hf
      clear hq hp he hf
      go_enter Try.func6, Try.ntmps6
      go_wp2_with fail
      refine (ParseRequest_any _ _ HM.out).mono ?_; rintro e w1 ⟨rfl, hb1⟩; rw [HQ.out, reqV_mk]
      go_wp2_with fail
      refine (ParseStatus_any _ _ HM.out).mono ?_; rintro e w2 ⟨rfl, hb2⟩; rw [HP.out, staV_mk]
      have b2 := hb1.trans (hb2.mono hb1.size)
      clear hb1 hb2
      go_wp2_with fail
      refine (awake2_any _).mono ?_; rintro e w5 ⟨rfl, hb5⟩
      go_wp2
      go_ret
      exact ⟨rfl, b2.trans (hb5.mono b2.size)⟩
theorem back_walk (l : ByteArray) (w : World) (hl : l.size ≤ maxLen) :
    Calls Try.prog 6 #[.string l] w fun e w' => e = .returned (.bool true) ∧ Below w.heap.size w w' := by
  by_cases h1 : 3000 < l.size
  · unfold maxLen at hl
    go_enter Try.func6, Try.ntmps6
    go_wp2
    go_ret
    exact ⟨rfl, Below.refl _ _⟩
  · exact back_in l w (by omega) (box hl)

theorem long_walk (l : ByteArray) (n : Int) (w : World) (hl : l.size ≤ maxLen) (hn : (Lit.int .i64 n).wf = true) :
    Calls Try.prog 7 #[.string l, .int .i64 n] w fun e w' => e = .returned (.bool true) ∧ Below w.heap.size w w' := by
  have HN := box (wf64 hn)
  clear hn
  by_cases h1 : 1000 < l.size
  · unfold maxLen at hl
    go_enter Try.func7, Try.ntmps7
    go_wp2
    go_ret
    exact ⟨rfl, Below.refl _ _⟩
  · have h1' : l.size ≤ 1000 := by omega
    clear hl h1
    by_cases h2 : n < 0
    · go_enter Try.func7, Try.ntmps7
      go_wp2
      go_ret
      exact ⟨rfl, Below.refl _ _⟩
    · by_cases h3 : 100 < n
      · go_enter Try.func7, Try.ntmps7
        go_wp2
        go_ret
        exact ⟨rfl, Below.refl _ _⟩
      · have g2 : 0 ≤ n := by omega
        have g3 : n ≤ 100 := by omega
        clear h2 h3
        go_enter Try.func7, Try.ntmps7
        go_wp2
        go_loop [0] (fun v => ∃ t : ByteArray, v = .string t ∧ t.size ≤ 2101) (fun v => 2101 - (match v with | .string t => t.size | _ => 0))
        case atStart => exact ⟨l, rfl, by omega⟩
        case round =>
          obtain ⟨t, rfl, ht⟩ := hrel
          by_cases hlt : (t.size : Int) ≤ 2000 + n
          · go_wp2
            go_round
            case rel => exact ⟨t ++ ⟨#[120]⟩, rfl, by have h : (⟨#[120]⟩ : ByteArray).size = 1 := rfl; rw [ByteArray.size_append]; omega⟩
            case measure =>
              show 2101 - (t ++ ⟨#[120]⟩).size < 2101 - t.size
              have h : (⟨#[120]⟩ : ByteArray).size = 1 := rfl
              rw [ByteArray.size_append]; omega
          · have hbig : 2000 < t.size := by omega
            have HM : Box (t.size ≤ maxLen) := box (by unfold maxLen; omega)
            have HQ := box (req_long (long_of hbig))
            have HP := box (sta_long (long_of hbig))
            go_wp2_with fail
            refine (ParseRequest_any _ _ HM.out).mono ?_; rintro e w1 ⟨rfl, hb1⟩; rw [HQ.out, reqV_mk]
            go_wp2_with fail
            refine (ParseStatus_any _ _ HM.out).mono ?_; rintro e w2 ⟨rfl, hb2⟩; rw [HP.out, staV_mk]
            have b2 := hb1.trans (hb2.mono hb1.size)
            clear hb1 hb2
            go_wp2_with fail
            refine (awake2_any _).mono ?_; rintro e w5 ⟨rfl, hb5⟩
            go_wp2
            go_ret
            exact ⟨rfl, b2.trans (hb5.mono b2.size)⟩
end Go.Proofs.Ytcpmacmcfedaaaa.Asc
