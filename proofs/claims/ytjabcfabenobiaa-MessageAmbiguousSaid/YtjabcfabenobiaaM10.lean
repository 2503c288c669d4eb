/- Merged texts: StaFmt MsgRef6 MsgRd MsgRd2. -/
import Derived.Test.YtjabcfabenobiaaM03
import Derived.Test.YtjabcfabenobiaaM06
import Derived.Test.YtjabcfabenobiaaM07
import Derived.Test.YtjabcfabenobiaaM09
import Derived.Deep.LoopGhost
import Derived.Deep.RegionLaw
set_option linter.unusedVariables false
set_option linter.unusedSimpArgs false
set_option maxRecDepth 100000
namespace Go.Proofs.Ytjabcfabenobiaa.Asc
section
open Go.RowKit
theorem decF_size : ∀ f m acc, (decF f m acc).length ≤ f + acc.length := fun f => by
  induction f with
  | zero => intro m acc; simp [decF]
  | succ f ih =>
    intro m acc
    unfold decF; split
    · simp; omega
    · have := ih (m / 10) (digB m :: acc)
      simp at this; omega
theorem decL_len (n : Int) : (decL n).length ≤ 21 := by
  unfold decL; split
  · have := decF_size 20 n.natAbs []; simp at this ⊢; omega
  · have := decF_size 20 n.natAbs []; simp at this ⊢; omega
theorem line_size (m t : ByteArray) (n : Int) (hm : m.size ≤ 3000) (ht : t.size ≤ 3000) : (bs (reqLine m.data.toList t.data.toList n)).size ≤ maxLen := by
  have h1 := len_of m
  have h2 := len_of t
  have h3 := decL_len n
  rw [bs_size]; unfold maxLen; simp [reqLine, http7]; omega
theorem reqV_mk (a b : List UInt8) (v e : Int) : reqV (a, b, v, e) = .tuple #[.string (bs a), .string (bs b), .int .i64 v, .int .i64 e] := rfl
theorem fmtReq_no {m t a b : List UInt8} {n v e : Int} (h : reqL (reqLine m t n) = (a, b, v, e)) (hn : ¬ (a, b, v, e) = (m, t, n, 0)) : fmtReqL m t n = [] := by
  unfold fmtReqL; rw [if_neg (by rw [h]; exact hn)]
theorem rline_bs (m t : ByteArray) (n : Int) : m ++ ⟨#[32]⟩ ++ t ++ ⟨#[32, 72, 84, 84, 80, 47, 49, 46]⟩ ++ ⟨(decL n).toArray⟩ = bs (reqLine m.data.toList t.data.toList n) := by
  apply ByteArray.ext
  simp [ByteArray.data_append, bs, reqLine, http7]
theorem rFormatRequest_yes (m t : ByteArray) (n : Int) (w : World) (h0 : 0 ≤ n) (hn1 : n ≤ 1) (hm : m.size ≤ 2000) (ht : t.size ≤ 2000) (h1 : Box (InI64 n)) (HQ : Box (reqL (reqLine m.data.toList t.data.toList n) = (m.data.toList, t.data.toList, n, 0))) :
    Calls Try.prog 18 #[.string m, .string t, .int .i64 n] w fun e w' => e = .returned (.string (bs (fmtReqL m.data.toList t.data.toList n))) ∧ Below w.heap.size w w' := by
  have hv := decL_len n
  have HZ := box (line_size m t n (by omega) (by omega))
  go_enter Try.func18, Try.ntmps18
  go_wp2_with fail
  refine (rDecimal_any _ _ h1.out).mono ?_; rintro e w1 ⟨rfl, hb1⟩
  go_wp2_with fail
  rw [rline_bs]
  refine (rParseRequest_any _ _ HZ.out).mono ?_; rintro e w2 ⟨rfl, hb2⟩; rw [bs_toList, HQ.out, reqV_mk, ← bs_of, ← bs_of]
  go_wp2
  go_ret
  refine ⟨?_, hb1.trans (hb2.mono hb1.size)⟩
  unfold fmtReqL; rw [if_pos HQ.out]; rfl
theorem rFormatRequest_no (m t : ByteArray) (n : Int) (w : World) (h0 : 0 ≤ n) (hn1 : n ≤ 1) (hm : m.size ≤ 2000) (ht : t.size ≤ 2000) (h1 : Box (InI64 n)) (a b : List UInt8) (v e0 : Int) (HQ : Box (reqL (reqLine m.data.toList t.data.toList n) = (a, b, v, e0))) (HN : Box (¬ (a, b, v, e0) = (m.data.toList, t.data.toList, n, 0))) :
    Calls Try.prog 18 #[.string m, .string t, .int .i64 n] w fun e w' => e = .returned (.string (bs (fmtReqL m.data.toList t.data.toList n))) ∧ Below w.heap.size w w' := by
  have hv := decL_len n
  have HZ := box (line_size m t n (by omega) (by omega))
  go_enter Try.func18, Try.ntmps18
  go_wp2_with fail
  refine (rDecimal_any _ _ h1.out).mono ?_; rintro e w1 ⟨rfl, hb1⟩
  go_wp2_with fail
  rw [rline_bs]
  refine (rParseRequest_any _ _ HZ.out).mono ?_; rintro e w2 ⟨rfl, hb2⟩; rw [bs_toList, HQ.out, reqV_mk]
  have b2 := hb1.trans (hb2.mono hb1.size)
  clear hb1 hb2
  go_wp2
  · go_ret
    exact ⟨by rw [fmtReq_no HQ.out HN.out]; rfl, b2⟩
  · have e1 : e0 = 0 := by assumption
    have e2 : (bs a).toList = m.toList := by assumption
    have e3 : (bs b).toList = t.toList := by assumption
    have e4 : (v != n) = false := by assumption
    rw [toList_bs, toList_data] at e2 e3
    exact absurd (by rw [e1, e2, e3, show v = n from by simpa using e4]) HN.out
  all_goals
    go_ret
    exact ⟨by rw [fmtReq_no HQ.out HN.out]; rfl, b2⟩
theorem rFormatRequest_any (m t : ByteArray) (n : Int) (w : World) (hm : m.size ≤ 3000) (ht : t.size ≤ 3000) (h1 : Box (InI64 n)) :
    Calls Try.prog 18 #[.string m, .string t, .int .i64 n] w fun e w' => e = .returned (.string (bs (fmtReqL m.data.toList t.data.toList n))) ∧ Below w.heap.size w w' := by
  by_cases h0 : n < 0
  · go_enter Try.func18, Try.ntmps18
    go_wp2
    go_ret
    exact ⟨by rw [fmtReq_min (.inl h0)]; rfl, Below.refl _ _⟩
  · by_cases h2 : 1 < n
    · go_enter Try.func18, Try.ntmps18
      go_wp2
      go_ret
      exact ⟨by rw [fmtReq_min (.inr h2)]; rfl, Below.refl _ _⟩
    · by_cases h3 : 2000 < m.size
      · go_enter Try.func18, Try.ntmps18
        go_wp2
        go_ret
        exact ⟨by rw [fmtReq_long (.inl (long_of h3))]; rfl, Below.refl _ _⟩
      · by_cases h4 : 2000 < t.size
        · go_enter Try.func18, Try.ntmps18
          go_wp2
          go_ret
          exact ⟨by rw [fmtReq_long (.inr (long_of h4))]; rfl, Below.refl _ _⟩
        · obtain ⟨a, b, v, e0, hq⟩ : ∃ a b v e0, reqL (reqLine m.data.toList t.data.toList n) = (a, b, v, e0) := ⟨_, _, _, _, rfl⟩
          by_cases h : (a, b, v, e0) = (m.data.toList, t.data.toList, n, 0)
          · exact rFormatRequest_yes m t n w (by omega) (by omega) (by omega) (by omega) h1 (box (hq.trans h))
          · exact rFormatRequest_no m t n w (by omega) (by omega) (by omega) (by omega) h1 a b v e0 (box hq) (box h)
end
section
open Go.RowKit
theorem rValid6_is {p : F} {b : Bool} {w : World} (N : Box (p.1.size ≤ 65536)) (V : Box (p.2.size ≤ 65536)) (h : Box (validF p = b)) :
    Calls Try.prog 13 #[.agg #[.string p.1, .string p.2]] w fun e w' => e = .returned (.bool b) ∧ Below w.heap.size w w' :=
  (rValidField_any p.1 p.2 w N V).mono fun e w' ⟨h1, h2⟩ => ⟨by rw [h1]; exact ret_bool h.out, h2⟩
theorem rform_is {p : F} {x : ByteArray} {w : World} (N : Box (p.1.size ≤ 65536)) (V : Box (p.2.size ≤ 65536)) (h : Box (bs (lineL p.1.data.toList p.2.data.toList) = x)) :
    Calls Try.prog 26 #[.agg #[.string p.1, .string p.2]] w fun e w' => e = .returned (.string x) ∧ Below w.heap.size w w' :=
  (rform_any p.1 p.2 w N V).mono fun e w' ⟨h1, h2⟩ => ⟨by rw [h1, h.out], h2⟩
theorem rDec_is {n : Int} {x : ByteArray} {w : World} (h1 : Box (InI64 n)) (h : Box (bs (decL n) = x)) :
    Calls Try.prog 14 #[.int .i64 n] w fun e w' => e = .returned (.string x) ∧ Below w.heap.size w w' :=
  (rDecimal_any n w h1.out).mono fun e w' ⟨h1, h2⟩ => ⟨by rw [h1, ← h.out]; rfl, h2⟩
theorem rUnfr_is {a : Option Addr} {cap : Nat} {L U : List F} {w : World} (S : Box (Sm L)) (hF : Box (Fs w a L)) (hU : Box (unfrL L = U)) :
    Calls Try.prog 6 #[.slice a L.length cap] w fun e w' => ∃ a2 cap2, e = .returned (.slice a2 U.length cap2) ∧ Fs w' a2 U ∧ Below w.heap.size w w' :=
  (rUnframed_any a cap L w S hF).mono fun e w' ⟨v, h1, h2, h3⟩ => by
    rw [hU.out] at h2
    obtain ⟨a2, cap2, rfl, hF2, _⟩ := h2.fs
    exact ⟨a2, cap2, h1, hF2, h3⟩
theorem flat_snoc {U : List F} {k : Nat} (h : k < U.length) : flatL (U.take (k + 1)) = flatL (U.take k) ++ (lineL U[k].1.data.toList U[k].2.data.toList ++ [13, 10]) := by
  unfold flatL; rw [take_next h, List.flatMap_append]; simp
theorem join_no {st : List UInt8} {L0 U : List F} {b : List UInt8} {length whole : Bool} (hU : unfrL L0 = U) (h : st = [] ∨ 63 < U.length ∨ 100000 < b.length ∨ U.all validF = false) : joinedL st L0 b length whole = [] := by
  unfold joinedL; simp only [hU]; rw [if_pos h]
theorem join_yes {st : List UInt8} {L0 U : List F} {b : List UInt8} {length whole : Bool} (hU : unfrL L0 = U) (h : ¬ (st = [] ∨ 63 < U.length ∨ 100000 < b.length ∨ U.all validF = false)) :
    joinedL st L0 b length whole = if 16000 < (outL6 st U b.length length).length then [] else outL6 st U b.length length ++ (if whole = true then b else []) := by
  unfold joinedL; simp only [hU]; rw [if_neg h]
theorem not_all {U : List F} {k : Nat} (h : k < U.length) (hv : validF U[k] = false) : U.all validF = false := by
  rw [List.all_eq_false]
  exact ⟨U[k], List.getElem_mem h, by rw [hv]; simp⟩
theorem line_le (p : F) (h1 : p.1.size ≤ 65536) (h2 : p.2.size ≤ 65536) : (bs (lineL p.1.data.toList p.2.data.toList)).size ≤ 131074 := by
  rw [bs_size, lineN_eq]
  unfold lineN
  have e1 : p.1.data.toList.length = p.1.size := by simp
  have e2 : p.2.data.toList.length = p.2.size := by simp
  split <;> omega
def JRel (st : ByteArray) (U : List F) (w : World) (o i : Value) (wr : World) : Prop := ∃ (k : Nat) (x : ByteArray), i = .int .i64 k ∧ o = .string x ∧ k ≤ U.length ∧ x.data.toList = st.data.toList ++ [13, 10] ++ flatL (U.take k) ∧ x.size ≤ 100010 + 131080 * k ∧ (U.take k).all validF = true ∧ Below w.heap.size w wr
set_option maxRecDepth 100000 in
set_option maxHeartbeats 4000000 in
theorem rJoin_no (st : ByteArray) (a : Option Addr) (cap : Nat) (L U : List F) (b : ByteArray) (ln wh : Bool) (w : World) (hst : st.size ≤ 100000) (hb : b.size ≤ 1000000) (S : Box (Sm L)) (hF : Box (Fs w a L)) (hU : Box (unfrL L = U)) (HX : st.toList.isEmpty = true ∨ (st.toList.isEmpty = false ∧ 63 < U.length) ∨ (st.toList.isEmpty = false ∧ ¬ 63 < U.length ∧ 100000 < b.size)) :
    Calls Try.prog 17 #[.string st, .slice a L.length cap, .string b, .bool ln, .bool wh] w fun e w' => e = .returned (.string (bs (joinedL st.data.toList L b.data.toList ln wh))) ∧ Below w.heap.size w w' := by
  have HE : Box (joinedL st.data.toList L b.data.toList ln wh = []) := box (join_no hU.out (by
    rcases HX with h | ⟨_, h⟩ | ⟨_, _, h⟩
    · exact .inl (nil_of_empty h)
    · exact .inr (.inl h)
    · exact .inr (.inr (.inl (by simpa using h)))))
  rcases HX with h | ⟨h0, h⟩ | ⟨h0, h1, h⟩
  · skip
    go_enter Try.func17, Try.ntmps17
    go_wp2_with fail
    refine (rUnfr_is S hF hU).mono ?_; rintro e w1 ⟨a1, cap1, rfl, hF1, hb1⟩
    go_wp2
    go_ret
    exact ⟨by rw [HE.out]; rfl, hb1⟩
  · have hi : (63 : Int) < (U.length : Int) := by omega
    go_enter Try.func17, Try.ntmps17
    go_wp2_with fail
    refine (rUnfr_is S hF hU).mono ?_; rintro e w1 ⟨a1, cap1, rfl, hF1, hb1⟩
    go_wp2
    go_ret
    exact ⟨by rw [HE.out]; rfl, hb1⟩
  · have hi : ¬ (63 : Int) < (U.length : Int) := by omega
    have hi2 : (100000 : Int) < (b.size : Int) := by omega
    go_enter Try.func17, Try.ntmps17
    go_wp2_with fail
    refine (rUnfr_is S hF hU).mono ?_; rintro e w1 ⟨a1, cap1, rfl, hF1, hb1⟩
    go_wp2
    go_ret
    exact ⟨by rw [HE.out]; rfl, hb1⟩
set_option maxRecDepth 100000 in
set_option maxHeartbeats 4000000 in
theorem rJoin_in (st : ByteArray) (a : Option Addr) (cap : Nat) (L U : List F) (b : ByteArray) (ln wh : Bool) (w : World) (hst : st.size ≤ 100000) (hb : b.size ≤ 1000000) (S : Box (Sm L)) (hF : Box (Fs w a L)) (hU : Box (unfrL L = U)) (h0 : st.toList.isEmpty = false) (h63 : ¬ 63 < U.length) (hb5 : ¬ 100000 < b.size) :
    Calls Try.prog 17 #[.string st, .slice a L.length cap, .string b, .bool ln, .bool wh] w fun e w' => e = .returned (.string (bs (joinedL st.data.toList L b.data.toList ln wh))) ∧ Below w.heap.size w w' := by
  have hi : ¬ (63 : Int) < (U.length : Int) := by omega
  have hi2 : ¬ (100000 : Int) < (b.size : Int) := by omega
  have hbl : b.data.toList.length = b.size := by simp
  have SU : Box (Sm U) := box (by rw [← hU.out]; exact sm_rem (sm_rem S.out))
  have r0 : ∀ w, (Op.stringOp .add st ⟨#[13, 10]⟩).run Try.prog w = .ok (.string (st ++ ⟨#[13, 10]⟩)) w := fun w => run_string_add_sum w _ _ (by show st.size + 2 ≤ 9223372036854775807; omega)
  have hs0 : (st ++ ⟨#[13, 10]⟩ : ByteArray).size ≤ 100010 := by rw [ByteArray.size_append]; show st.size + 2 ≤ 100010; omega
  have HS0 := box hs0
  clear hs0
  go_enter Try.func17, Try.ntmps17
  go_wp2_with fail
  refine (rUnfr_is S hF hU).mono ?_; rintro e w1 ⟨a1, cap1, rfl, hF1, hb1⟩
  have B1 := box hb1
  have F1 := box hF1
  clear hb1 hF1
  go_wp2
  go_loopw [11, 12] (fun o i wr => JRel st U w1 o i wr) (fun _ i _ => U.length - (intOf i).toNat)
  case atStart => exact ⟨0, _, rfl, rfl, Nat.zero_le _, by simp [ByteArray.data_append, flatL], HS0.out, rfl, Below.refl _ _⟩
  case round =>
    obtain ⟨k, x, rfl, rfl, hk, hX, hxs0, hall, hbel⟩ := hrel
    have HXE := box hX
    have HALL := box hall
    have BL := box hbel
    have F2 := box (F1.out.below hbel)
    clear hX hall hbel
    by_cases hlt : k < U.length
    · have hki : (k : Int) < (U.length : Int) := by omega
      obtain ⟨q, off, rfl, c0, c1⟩ := F2.out k hlt
      have N1 := box ((SU.out.2 k hlt).1)
      have V1 := box ((SU.out.2 k hlt).2)
      obtain ⟨y, hy⟩ : ∃ y, bs (lineL U[k].1.data.toList U[k].2.data.toList) = y := ⟨_, rfl⟩
      have hys : y.size ≤ 131074 := by rw [← hy]; exact line_le _ N1.out V1.out
      have HY := box hy
      clear hy
      rcases hv : validF U[k] with _ | _
      · have HV := box hv
        have HE : Box (joinedL st.data.toList L b.data.toList ln wh = []) := box (join_no hU.out (.inr (.inr (.inr (not_all hlt hv)))))
        clear hv
        go_wp2_with fail
        refine (rValid6_is N1 V1 HV).mono ?_; rintro e w2 ⟨rfl, hb2⟩
        have B2 := box (BL.out.trans (hb2.mono BL.out.size))
        clear hb2
        go_wp2
        go_ret
        exact ⟨by rw [HE.out]; rfl, B1.out.trans (B2.out.mono B1.out.size)⟩
      · have HV := box hv
        have hx9 : x.size ≤ 9000000 := by omega
        have r1 : ∀ w, (Op.stringOp .add y ⟨#[13, 10]⟩).run Try.prog w = .ok (.string (y ++ ⟨#[13, 10]⟩)) w := fun w => run_string_add_sum w _ _ (by show y.size + 2 ≤ 9223372036854775807; omega)
        have r2 : ∀ w, (Op.stringOp .add x (y ++ ⟨#[13, 10]⟩)).run Try.prog w = .ok (.string (x ++ (y ++ ⟨#[13, 10]⟩))) w := fun w => run_string_add_sum w _ _ (by rw [ByteArray.size_append]; show x.size + (y.size + 2) ≤ 9223372036854775807; omega)
        have HX2 : Box ((x ++ (y ++ ⟨#[13, 10]⟩)).data.toList = st.data.toList ++ [13, 10] ++ flatL (U.take (k + 1))) := box (by
          rw [flat_snoc hlt, ← HY.out]
          simp only [ByteArray.data_append, Array.toList_append, HXE.out, bs]
          simp)
        have HS2 : Box ((x ++ (y ++ ⟨#[13, 10]⟩)).size ≤ 100010 + 131080 * (k + 1)) := box (by rw [ByteArray.size_append, ByteArray.size_append]; show x.size + (y.size + 2) ≤ _; omega)
        have HA2 : Box ((U.take (k + 1)).all validF = true) := box (by rw [take_next hlt, List.all_append, HALL.out]; simp [hv])
        clear hv
        go_wp2_with fail
        refine (rValid6_is N1 V1 HV).mono ?_; rintro e w2 ⟨rfl, hb2⟩
        have B2 := box (BL.out.trans (hb2.mono BL.out.size))
        have e0 := (hb2.cell (cell_lt c0)).trans c0
        have e1 := (hb2.cell (cell_lt c1)).trans c1
        clear hb2 c0 c1
        go_wp2_with fail
        refine (rform_is N1 V1 HY).mono ?_; rintro e w3 ⟨rfl, hb3⟩
        have B3 := box (B2.out.trans (hb3.mono B2.out.size))
        clear hb3
        go_wp2
        go_roundw
        case rel => exact ⟨k + 1, _, by go_num, rfl, by omega, HX2.out, HS2.out, HA2.out, B3.out⟩
        case measure => simp [intOf]; omega
    · have hke : k = U.length := by omega
      rw [hke, List.take_length] at HXE HALL
      have hki : ¬ (k : Int) < (U.length : Int) := by omega
      have hxs : x.size ≤ 9000000 := by omega
      have HJ := box (join_yes (st := st.data.toList) (b := b.data.toList) (length := ln) (whole := wh) hU.out (by
        rintro (q | q | q | q)
        · exact ne_of_empty h0 q
        · omega
        · rw [hbl] at q; omega
        · rw [HALL.out] at q; cases q))
      clear hk hlt
      rcases ln with _ | _
      · skip
        obtain ⟨y, hy⟩ : ∃ y, x ++ ⟨#[13, 10]⟩ = y := ⟨_, rfl⟩
        have hys : y.size = x.size + 2 := by rw [← hy, ByteArray.size_append]; rfl
        have HY : Box (y.data.toList = outL6 st.data.toList U (b.size : Int) false) := box (by rw [← hy]; unfold outL6; simp only [ByteArray.data_append, Array.toList_append, HXE.out]; simp)
        have HYE := box hy
        have r4 : ∀ w, (Op.stringOp .add x ⟨#[13, 10]⟩).run Try.prog w = .ok (.string y) w := fun w => by rw [← HYE.out]; exact run_string_add_sum w _ _ (by show x.size + 2 ≤ 9223372036854775807; omega)
        rw [hbl] at HJ
        have hyl : y.data.toList.length = y.size := by simp
        rw [← HY.out, hyl] at HJ
        clear hy hyl
        by_cases h16 : 16000 < y.size
        · have h16i : (16000 : Int) < (y.size : Int) := by omega
          rw [if_pos h16] at HJ
          go_wp2
          go_ret
          exact ⟨by rw [HJ.out]; rfl, B1.out.trans (BL.out.mono B1.out.size)⟩
        · have h16i : ¬ (16000 : Int) < (y.size : Int) := by omega
          rw [if_neg h16] at HJ
          rcases wh with _ | _
          · rw [if_neg (by simp), List.append_nil] at HJ
            go_wp2
            go_ret
            exact ⟨by rw [HJ.out]; rfl, B1.out.trans (BL.out.mono B1.out.size)⟩
          · have r5 : ∀ w, (Op.stringOp .add y b).run Try.prog w = .ok (.string (y ++ b)) w := fun w => run_string_add_sum w _ _ (by omega)
            rw [if_pos rfl] at HJ
            go_wp2
            go_ret
            refine ⟨ret_str ?_, B1.out.trans (BL.out.mono B1.out.size)⟩
            rw [HJ.out]
            apply ByteArray.ext
            apply Array.toList_inj.mp
            simp [ByteArray.data_append, bs]
      · skip
        obtain ⟨d, hd⟩ : ∃ d, bs (decL (b.size : Int)) = d := ⟨_, rfl⟩
        have hds : d.size ≤ 21 := by rw [← hd, bs_size]; exact decL_len _
        have HD := box hd
        have HI : Box (InI64 (b.size : Int)) := box (by unfold InI64; omega)
        have r1 : ∀ w, (Op.stringOp .add (⟨#[67, 111, 110, 116, 101, 110, 116, 45, 76, 101, 110, 103, 116, 104, 58, 32]⟩ : ByteArray) d).run Try.prog w = .ok (.string ((⟨#[67, 111, 110, 116, 101, 110, 116, 45, 76, 101, 110, 103, 116, 104, 58, 32]⟩ : ByteArray) ++ d)) w := fun w => run_string_add_sum w _ _ (by show 16 + d.size ≤ 9223372036854775807; omega)
        have r2 : ∀ w, (Op.stringOp .add ((⟨#[67, 111, 110, 116, 101, 110, 116, 45, 76, 101, 110, 103, 116, 104, 58, 32]⟩ : ByteArray) ++ d) ⟨#[13, 10]⟩).run Try.prog w = .ok (.string ((⟨#[67, 111, 110, 116, 101, 110, 116, 45, 76, 101, 110, 103, 116, 104, 58, 32]⟩ : ByteArray) ++ d ++ ⟨#[13, 10]⟩)) w := fun w => run_string_add_sum w _ _ (by rw [ByteArray.size_append]; show 16 + d.size + 2 ≤ 9223372036854775807; omega)
        obtain ⟨z, hz⟩ : ∃ z, (⟨#[67, 111, 110, 116, 101, 110, 116, 45, 76, 101, 110, 103, 116, 104, 58, 32]⟩ : ByteArray) ++ d ++ ⟨#[13, 10]⟩ = z := ⟨_, rfl⟩
        have hzs : z.size ≤ 39 := by rw [← hz, ByteArray.size_append, ByteArray.size_append]; show 16 + d.size + 2 ≤ 39; omega
        have HZ : Box (z.data.toList = clenL (b.size : Int)) := box (by rw [← hz, ← hd]; simp [ByteArray.data_append, bs, clenL, clN])
        rw [hz] at r2
        clear hd hz
        obtain ⟨y, hy⟩ : ∃ y, x ++ z ++ ⟨#[13, 10]⟩ = y := ⟨_, rfl⟩
        have hys : y.size = x.size + z.size + 2 := by rw [← hy, ByteArray.size_append, ByteArray.size_append]; rfl
        have HY : Box (y.data.toList = outL6 st.data.toList U (b.size : Int) true) := box (by rw [← hy]; unfold outL6; simp only [ByteArray.data_append, Array.toList_append, HXE.out, HZ.out]; simp)
        have HYE := box hy
        have r3 : ∀ w, (Op.stringOp .add x z).run Try.prog w = .ok (.string (x ++ z)) w := fun w => run_string_add_sum w _ _ (by omega)
        have r4 : ∀ w, (Op.stringOp .add (x ++ z) ⟨#[13, 10]⟩).run Try.prog w = .ok (.string y) w := fun w => by rw [← HYE.out]; exact run_string_add_sum w _ _ (by rw [ByteArray.size_append]; show x.size + z.size + 2 ≤ 9223372036854775807; omega)
        rw [hbl] at HJ
        have hyl : y.data.toList.length = y.size := by simp
        rw [← HY.out, hyl] at HJ
        clear hy hyl
        by_cases h16 : 16000 < y.size
        · have h16i : (16000 : Int) < (y.size : Int) := by omega
          rw [if_pos h16] at HJ
          go_wp2_with fail
          refine (rDec_is HI HD).mono ?_; rintro e w3 ⟨rfl, hb3⟩
          have B3 := box (BL.out.trans (hb3.mono BL.out.size))
          clear hb3
          go_wp2
          go_ret
          exact ⟨by rw [HJ.out]; rfl, B1.out.trans (B3.out.mono B1.out.size)⟩
        · have h16i : ¬ (16000 : Int) < (y.size : Int) := by omega
          rw [if_neg h16] at HJ
          rcases wh with _ | _
          · rw [if_neg (by simp), List.append_nil] at HJ
            go_wp2_with fail
            refine (rDec_is HI HD).mono ?_; rintro e w3 ⟨rfl, hb3⟩
            have B3 := box (BL.out.trans (hb3.mono BL.out.size))
            clear hb3
            go_wp2
            go_ret
            exact ⟨by rw [HJ.out]; rfl, B1.out.trans (B3.out.mono B1.out.size)⟩
          · have r5 : ∀ w, (Op.stringOp .add y b).run Try.prog w = .ok (.string (y ++ b)) w := fun w => run_string_add_sum w _ _ (by omega)
            rw [if_pos rfl] at HJ
            go_wp2_with fail
            refine (rDec_is HI HD).mono ?_; rintro e w3 ⟨rfl, hb3⟩
            have B3 := box (BL.out.trans (hb3.mono BL.out.size))
            clear hb3
            go_wp2
            go_ret
            refine ⟨ret_str ?_, B1.out.trans (B3.out.mono B1.out.size)⟩
            rw [HJ.out]
            apply ByteArray.ext
            apply Array.toList_inj.mp
            simp [ByteArray.data_append, bs]
theorem rJoined_any (st : ByteArray) (a : Option Addr) (cap : Nat) (L : List F) (b : ByteArray) (ln wh : Bool) (w : World) (hst : st.size ≤ 100000) (hb : b.size ≤ 1000000) (S : Box (Sm L)) (hF : Box (Fs w a L)) :
    Calls Try.prog 17 #[.string st, .slice a L.length cap, .string b, .bool ln, .bool wh] w fun e w' => e = .returned (.string (bs (joinedL st.data.toList L b.data.toList ln wh))) ∧ Below w.heap.size w w' := by
  obtain ⟨U, hU⟩ : ∃ U, unfrL L = U := ⟨_, rfl⟩
  rcases h0 : st.toList.isEmpty with _ | _
  · by_cases h63 : 63 < U.length
    · exact rJoin_no st a cap L U b ln wh w hst hb S hF (box hU) (.inr (.inl ⟨h0, h63⟩))
    · by_cases h5 : 100000 < b.size
      · exact rJoin_no st a cap L U b ln wh w hst hb S hF (box hU) (.inr (.inr ⟨h0, h63, h5⟩))
      · exact rJoin_in st a cap L U b ln wh w hst hb S hF (box hU) h0 h63 h5
  · exact rJoin_no st a cap L U b ln wh w hst hb S hF (box hU) (.inl h0)
end
section
open Go.RowKit
/-- all is as it was, but for the first five cells of block g -/
structure Kept (g : Nat) (w w' : World) : Prop where
  only : Only g w w'
  tail : ∀ i, 5 ≤ i → w'.cell? ⟨g, i, none⟩ = w.cell? ⟨g, i, none⟩ ∧ w'.frozen? ⟨g, i, none⟩ = w.frozen? ⟨g, i, none⟩
theorem Kept.refl (g : Nat) (w : World) : Kept g w w := ⟨Only.refl _ _, fun _ _ => ⟨rfl, rfl⟩⟩
theorem Kept.trans {g : Nat} {a b c : World} (h : Kept g a b) (k : Kept g b c) : Kept g a c :=
  ⟨h.only.trans k.only, fun i hi => ⟨(k.tail i hi).1.trans (h.tail i hi).1, (k.tail i hi).2.trans (h.tail i hi).2⟩⟩
theorem Kept.of {g : Nat} {w w' : World} (h : Below w.heap.size w w') (hg : g < w.heap.size) : Kept g w w' := ⟨Only.of h, fun i _ => ⟨h.cell hg, h.frozen hg⟩⟩
theorem Kept.set {g i : Nat} {w w' : World} (h : Kept g w w') (hi : i < 5) (v : Value) : Kept g w (w'.setCell ⟨g, i, none⟩ v) :=
  ⟨h.only.setAt i v, fun j hj => ⟨(World.cell?_setCell_other _ _ _ _ (by simp <;> omega)).trans (h.tail j hj).1, by rw [World.frozen?_setCell]; exact (h.tail j hj).2⟩⟩
theorem Kept.below {g : Nat} {w0 w w' : World} (h : Kept g w w') (hb : Below w0.heap.size w0 w) (hg : w0.heap.size ≤ g) : Below w0.heap.size w0 w' := hb.trans (h.only.below hg hb.size)
section
variable {g : Nat} {c0 c1 c2 c3 c4 : Value} {w : World}
theorem C5.set1 (f : C5 g c0 c1 c2 c3 c4 w) (v : Value) : C5 g c0 v c2 c3 c4 (w.setCell ⟨g, 1, none⟩ v) := by
  obtain ⟨⟨h0, h1, h2, h3, h4⟩, f0⟩ := f
  refine ⟨⟨?_, ?_, ?_, ?_, ?_⟩, by simpa only [World.frozen?_setCell] using f0⟩
  all_goals first
    | (rw [World.cell?_setCell_same (h := h1)])
    | exact (World.cell?_setCell_other _ _ _ _ (by simp)).trans (by assumption)
theorem C5.set2 (f : C5 g c0 c1 c2 c3 c4 w) (v : Value) : C5 g c0 c1 v c3 c4 (w.setCell ⟨g, 2, none⟩ v) := by
  obtain ⟨⟨h0, h1, h2, h3, h4⟩, f0⟩ := f
  refine ⟨⟨?_, ?_, ?_, ?_, ?_⟩, by simpa only [World.frozen?_setCell] using f0⟩
  all_goals first
    | (rw [World.cell?_setCell_same (h := h2)])
    | exact (World.cell?_setCell_other _ _ _ _ (by simp)).trans (by assumption)
theorem C5.set3 (f : C5 g c0 c1 c2 c3 c4 w) (v : Value) : C5 g c0 c1 c2 v c4 (w.setCell ⟨g, 3, none⟩ v) := by
  obtain ⟨⟨h0, h1, h2, h3, h4⟩, f0⟩ := f
  refine ⟨⟨?_, ?_, ?_, ?_, ?_⟩, by simpa only [World.frozen?_setCell] using f0⟩
  all_goals first
    | (rw [World.cell?_setCell_same (h := h3)])
    | exact (World.cell?_setCell_other _ _ _ _ (by simp)).trans (by assumption)
theorem C5.set4 (f : C5 g c0 c1 c2 c3 c4 w) (v : Value) : C5 g c0 c1 c2 c3 v (w.setCell ⟨g, 4, none⟩ v) := by
  obtain ⟨⟨h0, h1, h2, h3, h4⟩, f0⟩ := f
  refine ⟨⟨?_, ?_, ?_, ?_, ?_⟩, by simpa only [World.frozen?_setCell] using f0⟩
  all_goals first
    | (rw [World.cell?_setCell_same (h := h4)])
    | exact (World.cell?_setCell_other _ _ _ _ (by simp)).trans (by assumption)
end
theorem host_un (K : List F) : getL hostN (unfrL K) = getL hostN K := by
  have key : ∀ p : F, nmd hostN p = true → nmd clN p = false ∧ nmd teN p = false := by
    intro p h
    unfold nmd foldL at *
    simp only [decide_eq_true_eq, decide_eq_false_iff_not] at *
    constructor
    · intro e; rw [h] at e; exact absurd e (by decide +kernel)
    · intro e; rw [h] at e; exact absurd e (by decide +kernel)
  unfold unfrL getL remL
  rw [List.filter_filter, List.filter_filter]
  congr 1
  apply List.filter_congr
  intro p _
  rcases hp : nmd hostN p with _ | _
  · simp
  · obtain ⟨k1, k2⟩ := key p hp
    simp [k1, k2]
theorem bytesRead_any (g : Nat) (s x : ByteArray) (v f l : Value) (w : World) (hs : s.size ≤ 4000000) (hx : x.size ≤ 4000000) (C : Box (C5 g (.string s) (.string x) v f l w)) :
    Calls Try.prog 20 #[.pointer (some ⟨g, 0, none⟩)] w fun e w' => e = .returned (.int .i64 ((s.size : Int) - (x.size : Int))) ∧ Below w.heap.size w w' := by
  obtain ⟨⟨c0, c1, c2, c3, c4⟩, _⟩ := C.out
  go_enter Try.func20, Try.ntmps20
  go_wp2
  go_quiet (fail)
  go_wp2
  go_ret
  exact ⟨rfl, below_drewN _ _⟩
theorem cLine_is {x : ByteArray} {o : Int ⊕ (List UInt8 × List UInt8)} {w : World} (hx : x.size ≤ 4000000) (h : Box (nextL x.data.toList = o)) :
    Calls Try.prog 48 #[.string x] w fun e w' => e = .returned (lineV o) ∧ Below w.heap.size w w' :=
  (cLine_any x w hx).mono fun e w' ⟨h1, h2⟩ => ⟨by rw [h1, h.out], h2⟩
theorem cLine_ok {x x1 : ByteArray} {t : List UInt8} {w : World} (hx : x.size ≤ 4000000) (h : Box (nextL x.data.toList = .inr (t, x1.data.toList))) :
    Calls Try.prog 48 #[.string x] w fun e w' => e = .returned (.tuple #[.string (bs t), .string x1, .int .i64 0]) ∧ Below w.heap.size w w' :=
  (cLine_any x w hx).mono fun e w' ⟨h1, h2⟩ => ⟨by rw [h1, h.out]; rfl, h2⟩
def hlV (x : ByteArray) (c : Int) : Value := .tuple #[.string x, .int .i64 c]
theorem nh_bad (g : Nat) (s x : ByteArray) (v f l : Value) (w : World) (hx : x.size ≤ 4000000) (e0 : Int) (he : (e0 != 0) = true) (HN : Box (nextL x.data.toList = .inl e0)) (C : Box (C5 g (.string s) (.string x) v f l w)) :
    Calls Try.prog 40 #[.pointer (some ⟨g, 0, none⟩)] w fun e w' => e = .returned (hlV ⟨#[]⟩ e0) ∧ Kept g w w' := by
  have hlt := C.out.lt
  obtain ⟨⟨c0, c1, c2, c3, c4⟩, _⟩ := C.out
  go_enter Try.func40, Try.ntmps40
  go_wp2_with fail
  refine (cLine_is hx HN).mono ?_; rintro e w1 ⟨rfl, hb1⟩; unfold lineV
  have K1 := box (Kept.of hb1 hlt)
  clear hb1 c0 c1 c2 c3 c4
  go_wp2
  go_ret2
  exact ⟨rfl, K1.out⟩
theorem nh_any (g : Nat) (s x x1 : ByteArray) (t : List UInt8) (v f l : Value) (w : World) (hs : s.size ≤ 4000000) (hx : x.size ≤ 4000000) (hx1 : x1.size ≤ 4000000) (HN : Box (nextL x.data.toList = .inr (t, x1.data.toList))) (C : Box (C5 g (.string s) (.string x) v f l w)) :
    Calls Try.prog 40 #[.pointer (some ⟨g, 0, none⟩)] w fun e w' =>
      e = .returned (if (16000 : Int) < (s.size : Int) - (x1.size : Int) then hlV ⟨#[]⟩ 4 else hlV (bs t) 0) ∧ C5 g (.string s) (.string x1) v f l w' ∧ Kept g w w' := by
  have hlt := C.out.lt
  obtain ⟨⟨c0, c1, c2, c3, c4⟩, _⟩ := C.out
  by_cases hz : (16000 : Int) < (s.size : Int) - (x1.size : Int)
  · rw [if_pos hz]
    go_enter Try.func40, Try.ntmps40
    go_wp2_with fail
    refine (cLine_ok hx HN).mono ?_; rintro e w1 ⟨rfl, hb1⟩
    have C1 := C.out.next hb1
    have K1 := box ((Kept.of hb1 hlt).set (i := 1) (by omega) (.string x1))
    have C2 := box (C1.set1 (.string x1))
    clear hb1 c0 c1 c2 c3 c4
    obtain ⟨⟨c0, c1, c2, c3, c4⟩, ⟨f0, f1, f2, f3, f4⟩⟩ := C1
    go_wp2_with fail
    refine (bytesRead_any g s x1 v f l _ hs hx1 C2).mono ?_; rintro e w2 ⟨rfl, hb2⟩
    have C3 := box (C2.out.next hb2)
    have K2 := box (K1.out.trans (Kept.of hb2 C2.out.lt))
    clear hb2
    go_wp2
    go_ret2
    exact ⟨rfl, C3.out, K2.out⟩
  · rw [if_neg hz]
    go_enter Try.func40, Try.ntmps40
    go_wp2_with fail
    refine (cLine_ok hx HN).mono ?_; rintro e w1 ⟨rfl, hb1⟩
    have C1 := C.out.next hb1
    have K1 := box ((Kept.of hb1 hlt).set (i := 1) (by omega) (.string x1))
    have C2 := box (C1.set1 (.string x1))
    clear hb1 c0 c1 c2 c3 c4
    obtain ⟨⟨c0, c1, c2, c3, c4⟩, ⟨f0, f1, f2, f3, f4⟩⟩ := C1
    go_wp2_with fail
    refine (bytesRead_any g s x1 v f l _ hs hx1 C2).mono ?_; rintro e w2 ⟨rfl, hb2⟩
    have C3 := box (C2.out.next hb2)
    have K2 := box (K1.out.trans (Kept.of hb2 C2.out.lt))
    clear hb2
    go_wp2
    go_ret2
    exact ⟨rfl, C3.out, K2.out⟩
end
section
open Go.RowKit
def RdFPost (B g : Nat) (s : ByteArray) (f l : Value) (o : Int ⊕ (List UInt8 × List F × Nat × List UInt8)) (e : Ending) (w' : World) : Prop := match o with
  | .inl c => e = .returned (.int .i64 c) ∧ (c = 0 → False)
  | .inr (st, L, n, r) => e = .returned (.int .i64 0) ∧ ∃ v x, OwnF w' B v L ∧ C5 g (.string s) (.string x) v f l w' ∧ x.data.toList = r ∧ n + x.size = s.size ∧ L.length ≤ 64
def FldRel (g : Nat) (s : ByteArray) (f l : Value) (rq : Bool) (st : List UInt8) (o : Int ⊕ (List UInt8 × List F × Nat × List UInt8)) (w : World) (gk : Nat) (wr : World) : Prop :=
  ∃ (n : Nat) (x : ByteArray) (v : Value) (L : List F), L.length + gk = 65 ∧ 1 ≤ gk ∧ n + x.size = s.size ∧ o = headF (gk + 1) rq (L.length + 1) st L n x.data.toList ∧ OwnF wr w.heap.size v L ∧ C5 g (.string s) (.string x) v f l wr ∧ Kept g w wr
theorem Kept.ext {g : Nat} {w w1 w2 : World} (h : Kept g w w1) (hb : Below w.heap.size w1 w2) (hg : g < w.heap.size) : Kept g w w2 :=
  ⟨⟨hb.os.trans h.only.os, hb.tape.trans h.only.tape, hb.output.trans h.only.output, Nat.le_trans h.only.size hb.size, fun j hj hk => (hb.block j hj).trans (h.only.block j hj hk)⟩,
    fun i hi => ⟨(hb.cell hg).trans (h.tail i hi).1, (hb.frozen hg).trans (h.tail i hi).2⟩⟩
theorem size_next {n : Nat} {s x x1 : ByteArray} {t : List UInt8} (hn : n + x.size = s.size) (h : nextL x.data.toList = .inr (t, x1.data.toList)) : (n + t.length + 2) + x1.size = s.size ∧ t.length ≤ 2000 := by
  obtain ⟨h1, _, h3⟩ := next_line h
  have := congrArg List.length h1
  simp at this
  omega
set_option maxHeartbeats 4000000 in
theorem readFields_any (g : Nat) (s x : ByteArray) (rq : Bool) (st : List UInt8) (n : Nat) (f l : Value) (w : World) (hs : s.size ≤ 4000000) (hn : n + x.size = s.size) (C : Box (C5 g (.string s) (.string x) (.slice none 0 0) f l w)) (o : Int ⊕ (List UInt8 × List F × Nat × List UInt8)) (HO : Box (headF 66 rq 1 st [] n x.data.toList = o)) :
    Calls Try.prog 41 #[.pointer (some ⟨g, 0, none⟩)] w fun e w' => RdFPost w.heap.size g s f l o e w' ∧ Kept g w w' := by
  have hgw := C.out.lt
  go_enter Try.func41, Try.ntmps41
  go_wp2
  go_loopg [] 65 (fun gk wr => FldRel g s f l rq st o w gk wr)
  case atStart => exact ⟨n, x, _, [], rfl, by omega, hn, HO.out.symm, OwnF.nil _ _, C.out, Kept.refl _ _⟩
  case round =>
    clear HO hn C
    clear x n
    obtain ⟨n, x, v, L, hL, hg1, hn, hH, hO, hC, hK⟩ := hrel
    have HH := box hH
    have O0 := box hO
    have C0 := box hC
    have K0 := box hK
    have hx : x.size ≤ 4000000 := by omega
    clear hH hO hC hK
    rcases hN : nextL x.data.toList with e0 | ⟨t, r⟩
    · have HN := box hN
      have HE : Box (o = .inl e0) := box (by rw [HH.out, head_bad hN])
      have he0 : (e0 != 0) = true := by rcases err_size hN with rfl | rfl | rfl <;> rfl
      have HNE : Box (e0 = 0 → False) := box (by intro q; rw [q] at he0; simp at he0)
      clear hN
      go_wp2_with fail
      refine (nh_bad g s x v f l _ hx e0 he0 HN C0).mono ?_; rintro e w1 ⟨rfl, hk1⟩; unfold hlV
      have K1 := box (K0.out.trans hk1)
      clear hk1
      go_wp2
      go_ret
      refine ⟨?_, K1.out⟩
      rw [HE.out]
      exact ⟨rfl, HNE.out⟩
    · obtain ⟨x1, rfl⟩ : ∃ x1 : ByteArray, r = x1.data.toList := ⟨bs r, rfl⟩
      obtain ⟨hn1, htl⟩ := size_next hn hN
      have HN := box hN
      have hx1 : x1.size ≤ 4000000 := by omega
      by_cases hl : 16000 < n + t.length + 2
      · have HV : Box ((if (16000 : Int) < (s.size : Int) - (x1.size : Int) then hlV ⟨#[]⟩ 4 else hlV (bs t) 0) = .tuple #[.string ⟨#[]⟩, .int .i64 4]) := box (by rw [if_pos (by omega)]; rfl)
        have HE : Box (o = .inl 4) := box (by rw [HH.out, head_long hN (.inl hl)])
        clear hN
        go_wp2_with fail
        refine (nh_any g s x x1 t v f l _ hs hx hx1 HN C0).mono ?_; rintro e w1 ⟨rfl, hc1, hk1⟩; rw [HV.out]
        have K1 := box (K0.out.trans hk1)
        clear hc1 hk1
        go_wp2
        go_ret
        refine ⟨?_, K1.out⟩
        rw [HE.out]
        exact ⟨rfl, by decide⟩
      · have HV : Box ((if (16000 : Int) < (s.size : Int) - (x1.size : Int) then hlV ⟨#[]⟩ 4 else hlV (bs t) 0) = .tuple #[.string (bs t), .int .i64 0]) := box (by rw [if_neg (by omega)]; rfl)
        by_cases ht : t = []
        · subst ht
          have HE : Box (o = .inr (st, L, n + 2, x1.data.toList)) := box (by rw [HH.out, head_done hN (by simpa using hl) (by omega)])
          have hn2 : (n + 2) + x1.size = s.size := by simpa using hn1
          clear hN
          go_wp2_with fail
          refine (nh_any g s x x1 [] v f l _ hs hx hx1 HN C0).mono ?_; rintro e w1 ⟨rfl, hc1, hk1⟩; rw [HV.out]
          have O1 := box (own_only O0.out hk1.only hgw)
          have C1 := box hc1
          have K1 := box (K0.out.trans hk1)
          clear hc1 hk1
          rw [show bs ([] : List UInt8) = (⟨#[]⟩ : ByteArray) from rfl]
          go_wp2
          go_ret
          refine ⟨?_, K1.out⟩
          rw [HE.out]
          exact ⟨rfl, v, x1, O1.out, C1.out, rfl, hn2, by omega⟩
        · have hte : (bs t).toList.isEmpty = false := by rw [toList_bs]; cases t <;> simp_all
          obtain ⟨a0, cap0, rfl, _, _⟩ := O0.out.fs
          by_cases h64 : L.length = 64
          · have h6i : ((L.length : Int) == 64) = true := by rw [h64]; rfl
            have HE : Box (o = .inl 4) := box (by rw [HH.out, head_long hN (.inr ⟨by omega, ht⟩)])
            clear hN ht h64
            go_wp2_with fail
            refine (nh_any g s x x1 t _ f l _ hs hx hx1 HN C0).mono ?_; rintro e w1 ⟨rfl, hc1, hk1⟩; rw [HV.out]
            have K1 := box (K0.out.trans hk1)
            obtain ⟨⟨c0, c1, c2, c3, c4⟩, _⟩ := hc1
            clear hk1
            go_wp2
            go_ret
            refine ⟨?_, K1.out⟩
            rw [HE.out]
            exact ⟨rfl, by decide⟩
          · have h6i : ((L.length : Int) == 64) = false := by rw [beq_eq_false_iff_ne]; omega
            have hlt : ¬ (16000 < n + t.length + 2 ∨ (64 < L.length + 1 ∧ t ≠ [])) := by omega
            obtain ⟨a1, a2, e2, hfl⟩ : ∃ a1 a2 e2, fieldL t = (a1, a2, e2) := ⟨_, _, _, rfl⟩
            have HF := box hfl
            rcases he2 : (e2 != 0) with _ | _
            · have e20 : e2 = 0 := by simpa using he2
              obtain ⟨gk', rfl⟩ : ∃ g', gk = g' + 1 := ⟨gk - 1, by omega⟩
              have HX := box (HH.out.trans (head_more hN hlt (by omega) ht (by rw [hfl]; exact e20)))
              rw [hfl] at HX
              have hL6 : L.length ≤ 65536 := by omega
              have hL7 : (L ++ [(bs a1, bs a2)]).length + gk' = 65 := by simp; omega
              have hg2 : 1 ≤ gk' := by omega
              clear hN hlt e20 hfl ht h64
              go_wp2_with fail
              refine (nh_any g s x x1 t _ f l _ hs hx hx1 HN C0).mono ?_; rintro e w1 ⟨rfl, hc1, hk1⟩; rw [HV.out]
              have O1 := box (own_only O0.out hk1.only hgw)
              have C1 := box hc1
              have K1 := box (K0.out.trans hk1)
              obtain ⟨⟨c0, c1, c2, c3, c4⟩, _⟩ := hc1
              clear hk1
              go_wp2_with fail
              refine (Parse5_is htl HF).mono ?_; rintro e w2 ⟨rfl, hb2⟩
              have O2 := box (own_below O1.out hb2)
              have C2 := box (C1.out.next hb2)
              have K2 := box (K1.out.trans (Kept.of hb2 C1.out.lt))
              clear c0 c1 c2 c3 c4 hb2
              go_wp2
              obtain ⟨W, hW⟩ : ∃ W, w2.alloc (.cells #[.string (bs a1), .string (bs a2)] 39) = W := ⟨_, rfl⟩
              have hb3 : Below w2.heap.size w2 W := by rw [← hW]; exact below_new _ _
              have hsw : w.heap.size ≤ W.heap.size := Nat.le_trans K2.out.only.size hb3.size
              have d0 : W.cell? ⟨w2.heap.size, 0, none⟩ = some (.string (bs a1)) := by rw [← hW]; exact (Fld.new (bs a1) (bs a2) w2 39).1
              have d1 : W.cell? ⟨w2.heap.size, 1, none⟩ = some (.string (bs a2)) := by rw [← hW]; exact (Fld.new (bs a1) (bs a2) w2 39).2.1
              rw [hW]
              have O3 := box (own_below O2.out hb3)
              have C3 := box (C2.out.next hb3)
              have K3 := box (K2.out.trans (Kept.of hb3 C2.out.lt))
              clear hW hb3
              obtain ⟨⟨c0, c1, c2, c3, c4⟩, ⟨f0, f1, f2, f3, f4⟩⟩ := C3.out
              have hgW := C3.out.lt
              have hLe : (L ++ [(bs a1, bs a2)]).length = L.length + 1 := by simp
              have HB : Box (∀ o, Below W.heap.size W (W.drew.alloc o)) := box (fun o => (Below.refl _ _).drew.alloc (Nat.le_refl _) o)
              go_region_law (refine step_append_fld _ rfl (.tmp 37) (.tmp 39) rfl w.heap.size _ L (by rfl) (own_below O3.out (HB.out _)) _ _ (by rfl) (bs a1) (bs a2) (Fld.new (bs a1) (bs a2) W.drew 39).1 (Fld.new (bs a1) (bs a2) W.drew 39).2.1 hL6 (Nat.le_trans hsw (HB.out _).size) ?_; intro v' w4 hO4 hb4; obtain ⟨a5, cap5, rfl, _, _⟩ := OwnF.fs hO4; rw [hLe] at hO4; have O4 := box hO4; have C4 := box ((C3.out.next (HB.out _)).below hb4 hgw); have K4 := box ((K3.out.trans (Kept.of (HB.out _) hgW)).ext hb4 hgw); obtain ⟨⟨c0, c1, c2, c3, c4⟩, ⟨f0, f1, f2, f3, f4⟩⟩ := C4.out; clear hO4 hb4)
              all_goals
                go_wp2
                go_roundg gk'
                case rel => exact ⟨n + t.length + 2, x1, _, L ++ [(bs a1, bs a2)], hL7, hg2, hn1, by rw [HX.out, List.length_append]; rfl, own_only O4.out ((Only.refl _ _).setAt 2 _) hgw, C4.out.set2 _, K4.out.set (i := 2) (by omega) _⟩
                case measure => omega
            · have e20 : e2 ≠ 0 := by simpa using he2
              have HE : Box (o = .inl e2) := box (by rw [HH.out, head_field hN hlt (by omega) ht (by rw [hfl]; exact e20), hfl])
              have HNE := box e20
              clear hN hlt e20 hfl ht h64
              go_wp2_with fail
              refine (nh_any g s x x1 t _ f l _ hs hx hx1 HN C0).mono ?_; rintro e w1 ⟨rfl, hc1, hk1⟩; rw [HV.out]
              have C1 := box hc1
              have K1 := box (K0.out.trans hk1)
              obtain ⟨⟨c0, c1, c2, c3, c4⟩, _⟩ := hc1
              clear hk1
              go_wp2_with fail
              refine (Parse5_is htl HF).mono ?_; rintro e w2 ⟨rfl, hb2⟩
              have K2 := box (K1.out.trans (Kept.of hb2 C1.out.lt))
              have L2 := box (C1.out.next hb2).lt
              clear hb2
              go_wp2
              go_ret
              refine ⟨?_, K2.out.trans (Kept.of (below_new _ _) L2.out)⟩
              rw [HE.out]
              exact ⟨rfl, HNE.out⟩
end
end Go.Proofs.Ytjabcfabenobiaa.Asc
