/- Merged texts: MsgRd12 MsgMine LstOpen TarRKey TarOpen MsgOpen. -/
import Derived.Test.YtjabcfabenobiaaGreatM03
import Derived.Test.YtjabcfabenobiaaGreatM07
import Derived.Test.YtjabcfabenobiaaGreatM08
import Derived.Test.YtjabcfabenobiaaGreatM09
import Derived.Test.YtjabcfabenobiaaGreatM10
import Derived.Test.YtjabcfabenobiaaGreatM11
import Derived.Test.YtjabcfabenobiaaGreatM13
import Derived.BigQuiet
import Derived.Carry
import Derived.Deep.Fields
import Derived.Deep.QuietTactic
import Derived.Deep.RegionHeld3
import Derived.Deep.SlicePairs
import Derived.ProofKit
import Derived.StillTailTactics
set_option linter.unusedVariables false
set_option linter.unusedSimpArgs false
set_option maxRecDepth 100000
namespace Go.Proofs.YtjabcfabenobiaaGreat.Asc
section
open Go.RowKit
theorem out_F {st : List UInt8} {U : List F} {n : Int} {b : Bool} (h0 : 0 ≤ n) (h1 : n ≤ 100000) : outL6 st U n b = outF st (moreF U n b) := by
  have := out_flat (st := st) (L := U) (length := b) h0 h1 []
  rw [List.append_nil] at this
  rw [this]; unfold outF; simp
theorem more_all {U : List F} {n : Int} {b : Bool} (h0 : 0 ≤ n) (h1 : n ≤ 100000) : (moreF U n b).all validF = U.all validF := by
  unfold moreF
  rw [List.all_append]
  cases b
  · simp
  · simp [(cl_valid h0 h1).1]
theorem without_is {a : Option Addr} {cap : Nat} {L U : List F} {w : World} (S : Box (Sm L)) (hF : Box (Fs w a L)) (hU : Box (unfrL L = U)) :
    Calls Tryz.prog 63 #[.slice a L.length cap] w fun e w' => ∃ a2 cap2, e = .returned (.slice a2 U.length cap2) ∧ OwnF w' w.heap.size (.slice a2 U.length cap2) U ∧ Below w.heap.size w w' :=
  (without_any a cap L w S hF).mono fun e w' ⟨v, h1, h2, h3⟩ => by
    rw [hU.out] at h2
    obtain ⟨a2, cap2, rfl, _, _⟩ := h2.fs
    exact ⟨a2, cap2, h1, h2, h3⟩
theorem Dec_is {n : Int} {x : ByteArray} {w : World} (h1 : Box (InI64 n)) (h : Box (bs (decL n) = x)) :
    Calls Tryz.prog 64 #[.int .i64 n] w fun e w' => e = .returned (.string x) ∧ Below w.heap.size w w' :=
  (Decimal_any n w h1.out).mono fun e w' ⟨h1, h2⟩ => ⟨by rw [h1, ← h.out]; rfl, h2⟩
theorem fh_is {st : ByteArray} {a : Option Addr} {n cap : Nat} {L : List F} {v : Value} {w : World} (hst : Box (st.size ≤ 100000)) (hn : Box (L.length = n)) (hL : Box (L.length ≤ 64)) (S : Box (Sm L)) (hF : Box (Fs w a L)) (h : Box (fhV st L = v)) :
    Calls Tryz.prog 65 #[.string st, .slice a n cap] w fun e w' => e = .returned v ∧ Below w.heap.size w w' := by
  have := (fh_any st a cap L w hst.out hL.out S hF).mono (fun e w' (h1 : e = .returned (fhV st L) ∧ Below w.heap.size w w') => (⟨by rw [h1.1, h.out], h1.2⟩ : e = .returned v ∧ Below w.heap.size w w'))
  rw [hn.out] at this
  exact this
theorem sm_more {U : List F} {n : Int} (h : Sm U) (hU : U.length ≤ 63) : Sm (U ++ [(clN, bs (decL n))]) := by
  refine ⟨by simp; omega, fun i hi => ?_⟩
  rcases Nat.lt_or_ge i U.length with q | q
  · rw [List.getElem_append_left q]; exact h.2 i q
  · rw [List.getElem_append_right q]
    simp only [List.getElem_singleton]
    exact ⟨by decide, by rw [bs_size]; have := decL_len n; omega⟩
set_option maxHeartbeats 4000000 in
theorem fmt_no (st : ByteArray) (a : Option Addr) (cap : Nat) (L U : List F) (b : ByteArray) (sz : Bool) (w : World) (S : Box (Sm L)) (hF : Box (Fs w a L)) (hU : Box (unfrL L = U)) (hb : b.size ≤ 1000000) (HX : st.toList.isEmpty = true ∨ (st.toList.isEmpty = false ∧ 63 < U.length) ∨ (st.toList.isEmpty = false ∧ ¬ 63 < U.length ∧ 100000 < b.size)) :
    Calls Tryz.prog 37 #[.string st, .slice a L.length cap, .string b, .bool sz] w fun e w' => e = .returned (.string (bs (joinedL st.data.toList L b.data.toList sz sz))) ∧ Below w.heap.size w w' := by
  have HE : Box (joinedL st.data.toList L b.data.toList sz sz = []) := box (join_no hU.out (by
    rcases HX with h | ⟨_, h⟩ | ⟨_, _, h⟩
    · exact .inl (nil_of_empty h)
    · exact .inr (.inl h)
    · exact .inr (.inr (.inl (by simpa using h)))))
  rcases HX with h | ⟨h0, h⟩ | ⟨h0, h1, h⟩
  · skip
    go_enter Tryz.func37, Tryz.ntmps37
    go_wp2_with fail
    refine (without_is S hF hU).mono ?_; rintro e w1 ⟨a1, cap1, rfl, _, hb1⟩
    go_wp2
    go_ret
    exact ⟨by rw [HE.out]; rfl, hb1⟩
  · have hi : (63 : Int) < (U.length : Int) := by omega
    go_enter Tryz.func37, Tryz.ntmps37
    go_wp2_with fail
    refine (without_is S hF hU).mono ?_; rintro e w1 ⟨a1, cap1, rfl, _, hb1⟩
    go_wp2
    go_ret
    exact ⟨by rw [HE.out]; rfl, hb1⟩
  · have hi : ¬ (63 : Int) < (U.length : Int) := by omega
    have hi2 : (100000 : Int) < (b.size : Int) := by omega
    go_enter Tryz.func37, Tryz.ntmps37
    go_wp2_with fail
    refine (without_is S hF hU).mono ?_; rintro e w1 ⟨a1, cap1, rfl, _, hb1⟩
    go_wp2
    go_ret
    exact ⟨by rw [HE.out]; rfl, hb1⟩
set_option maxHeartbeats 4000000 in
theorem fmt_in (st : ByteArray) (a : Option Addr) (cap : Nat) (L U : List F) (b : ByteArray) (sz : Bool) (w : World) (hst : Box (st.size ≤ 100000)) (S : Box (Sm L)) (hF : Box (Fs w a L)) (hU : Box (unfrL L = U)) (h0 : st.toList.isEmpty = false) (h63 : ¬ 63 < U.length) (hb5 : ¬ 100000 < b.size) :
    Calls Tryz.prog 37 #[.string st, .slice a L.length cap, .string b, .bool sz] w fun e w' => e = .returned (.string (bs (joinedL st.data.toList L b.data.toList sz sz))) ∧ Below w.heap.size w w' := by
  have hi : ¬ (63 : Int) < (U.length : Int) := by omega
  have hi2 : ¬ (100000 : Int) < (b.size : Int) := by omega
  have hbl : b.data.toList.length = b.size := by simp
  have SU : Box (Sm U) := box (by rw [← hU.out]; exact sm_rem (sm_rem S.out))
  have hu64 : Box (U.length ≤ 64) := box (by omega)
  have hu63 : Box (U.length ≤ 63) := box (by omega)
  have hn0 : (0 : Int) ≤ (b.size : Int) := by omega
  have hn1 : (b.size : Int) ≤ 100000 := by omega
  have hne : ¬ (st.data.toList = [] ∨ 63 < U.length ∨ 100000 < b.data.toList.length ∨ U.all validF = false) ↔ U.all validF = true := by
    have h1 := ne_of_empty h0
    rw [hbl]
    constructor
    · intro h; cases hv : U.all validF <;> simp_all
    · rintro h (q | q | q | q)
      · exact h1 q
      · exact h63 q
      · exact hb5 q
      · rw [h] at q; cases q
  -- the result, by whether all fields are valid and whether the head is short enough
  have HJ : Box (∀ y, (outF st.data.toList (moreF U b.size sz)) = y → joinedL st.data.toList L b.data.toList sz sz = if U.all validF = true then (if 16000 < y.length then [] else y ++ (if sz = true then b.data.toList else [])) else []) := box (by
    rintro y rfl
    rcases hv : U.all validF with _ | _
    · rw [if_neg (by simp)]; exact join_no hU.out (.inr (.inr (.inr hv)))
    · rw [if_pos rfl, join_yes hU.out (hne.mpr hv), hbl, out_F hn0 hn1])
  have HA := fun b' : Bool => more_all (U := U) (n := (b.size : Int)) (b := b') hn0 hn1
  clear hne hbl
  rcases sz with _ | _
  · -- without a body
    have hmf0 : moreF U (b.size : Int) false = U := by simp [moreF]
    obtain ⟨v, hv⟩ : ∃ v, fhV st U = v := ⟨_, rfl⟩
    have HV := box hv
    rw [hmf0] at HJ
    obtain ⟨y, hy⟩ : ∃ y, outF st.data.toList U = y := ⟨_, rfl⟩
    have HJ2 := box (HJ.out y hy)
    have hfh : (U.all validF = true ∧ v = .tuple #[.string (bs y), .bool (decide ((y.length : Int) ≤ 16000))]) ∨ (U.all validF = false ∧ v = .tuple #[.string ⟨#[]⟩, .bool false]) := by
      rw [← hv, ← hy]; unfold fhV
      rcases U.all validF with _ | _
      · exact .inr ⟨rfl, by simp⟩
      · exact .inl ⟨rfl, by simp⟩
    clear hv hy HA hmf0 HJ
    go_enter Tryz.func37, Tryz.ntmps37
    go_wp2_with fail
    refine (without_is S hF hU).mono ?_; rintro e w1 ⟨a1, cap1, rfl, hO1, hb1⟩
    have F1 : Box (Fs w1 a1 U) := box (by obtain ⟨_, _, he, hf, _⟩ := hO1.fs; cases he; exact hf)
    have B1 := box hb1
    clear hO1 hb1
    go_wp2_with fail
    refine (fh_is hst (box rfl) hu64 SU F1 HV).mono ?_; rintro e w2 ⟨rfl, hb2⟩
    have B2 := box (B1.out.trans (hb2.mono B1.out.size))
    clear hb2
    rcases hfh with ⟨hall, rfl⟩ | ⟨hall, rfl⟩
    · rw [hall, if_pos rfl] at HJ2
      by_cases hy : 16000 < y.length
      · have hyi : decide ((y.length : Int) ≤ 16000) = false := by rw [decide_eq_false_iff_not]; omega
        have HE : Box (joinedL st.data.toList L b.data.toList false false = []) := box (by rw [HJ2.out, if_pos hy])
        rw [hyi]
        go_wp2
        go_ret
        exact ⟨by rw [HE.out]; rfl, B2.out⟩
      · have hyi : decide ((y.length : Int) ≤ 16000) = true := by rw [decide_eq_true_eq]; omega
        have hyz : (bs y).size ≤ 16000 := by rw [bs_size]; omega
        have r0 : ∀ w, (Op.stringOp .add (bs y) ⟨#[]⟩).run Tryz.prog w = .ok (.string (bs y ++ ⟨#[]⟩)) w := fun w => run_string_add_sum w _ _ (by show (bs y).size + 0 ≤ 9223372036854775807; omega)
        have HE : Box (bs y ++ (⟨#[]⟩ : ByteArray) = bs (joinedL st.data.toList L b.data.toList false false)) := box (by rw [HJ2.out, if_neg hy]; simp [bs, ByteArray.ext_iff, ByteArray.data_append])
        rw [hyi]
        go_wp2
        go_ret
        exact ⟨by rw [← HE.out]; rfl, B2.out⟩
    · have HE : Box (joinedL st.data.toList L b.data.toList false false = []) := box (by rw [HJ2.out, hall, if_neg (by simp)])
      go_wp2
      go_ret
      exact ⟨by rw [HE.out]; rfl, B2.out⟩
  · -- with a body
    have hmf1 : moreF U (b.size : Int) true = U ++ [(clN, bs (decL (b.size : Int)))] := by simp [moreF, clenF]
    have SU2 : Box (Sm (U ++ [(clN, bs (decL (b.size : Int)))])) := box (sm_more SU.out hu63.out)
    rw [hmf1] at HJ
    obtain ⟨d, hd⟩ : ∃ d, bs (decL (b.size : Int)) = d := ⟨_, rfl⟩
    have HD := box hd
    have HIN : Box (InI64 (b.size : Int)) := box ⟨by omega, by omega⟩
    have hall2 := HA true
    rw [hmf1] at hall2
    rw [hd] at HJ SU2 hall2
    obtain ⟨v, hv⟩ : ∃ v, fhV st (U ++ [(clN, d)]) = v := ⟨_, rfl⟩
    have HV := box hv
    obtain ⟨y, hy⟩ : ∃ y, outF st.data.toList (U ++ [(clN, d)]) = y := ⟨_, rfl⟩
    have HJ2 := box (HJ.out y hy)
    have hfh : (U.all validF = true ∧ v = .tuple #[.string (bs y), .bool (decide ((y.length : Int) ≤ 16000))]) ∨ (U.all validF = false ∧ v = .tuple #[.string ⟨#[]⟩, .bool false]) := by
      rw [← hv, ← hy]; unfold fhV; rw [hall2]
      rcases U.all validF with _ | _
      · exact .inr ⟨rfl, by simp⟩
      · exact .inl ⟨rfl, by simp⟩
    have HLN : Box ((U ++ [(clN, d)]).length = U.length + 1) := box (by simp)
    have HL64 : Box ((U ++ [(clN, d)]).length ≤ 64) := box (by rw [HLN.out]; have := hu63.out; omega)
    have hl6 : U.length ≤ 65536 := by have := hu63.out; omega
    clear hv hy HA hmf1 HJ hd hall2
    go_enter Tryz.func37, Tryz.ntmps37
    go_wp2_with fail
    refine (without_is S hF hU).mono ?_; rintro e w1 ⟨a1, cap1, rfl, hO1, hb1⟩
    have O1 := box hO1
    have B1 := box hb1
    clear hO1 hb1
    go_wp2_with fail
    refine (Dec_is HIN HD).mono ?_; rintro e w2 ⟨rfl, hb2⟩
    have O2 := box (own_below O1.out hb2)
    have B2 := box (B1.out.trans (hb2.mono B1.out.size))
    have hB2 := B2.out.size
    clear hb2
    go_wp2_with (at_builtin; refine wpList_append_fld _ rfl (.tmp 27) (.tmp 32) rfl w.heap.size _ U rfl (own_below O2.out (below_new _ _)) _ _ rfl clN d (by go_simp; rfl) (by go_simp) hl6 (by simp; omega) ?_; intro v3 w3 hO3 hb3; have B3 := box ((B2.out.alloc hB2 _).trans hb3); obtain ⟨a3, cap3, rfl, hF3, _⟩ := OwnF.fs hO3; rw [HLN.out]; have F3 := box hF3; clear hO3 hb3 hF3)
    refine (fh_is hst HLN HL64 SU2 F3 HV).mono ?_; rintro e w4 ⟨rfl, hb4⟩
    have B4 := box (B3.out.trans (hb4.mono B3.out.size))
    clear hb4
    rcases hfh with ⟨hall, rfl⟩ | ⟨hall, rfl⟩
    · rw [hall, if_pos rfl] at HJ2
      by_cases hy : 16000 < y.length
      · have hyi : decide ((y.length : Int) ≤ 16000) = false := by rw [decide_eq_false_iff_not]; omega
        have HE : Box (joinedL st.data.toList L b.data.toList true true = []) := box (by rw [HJ2.out, if_pos hy])
        rw [hyi]
        go_wp2
        go_ret
        exact ⟨by rw [HE.out]; rfl, B4.out⟩
      · have hyi : decide ((y.length : Int) ≤ 16000) = true := by rw [decide_eq_true_eq]; omega
        have hyz : (bs y).size ≤ 16000 := by rw [bs_size]; omega
        have r0 : ∀ w, (Op.stringOp .add (bs y) b).run Tryz.prog w = .ok (.string (bs y ++ b)) w := fun w => run_string_add_sum w _ _ (by show (bs y).size + b.size ≤ 9223372036854775807; omega)
        have HE : Box (bs y ++ b = bs (joinedL st.data.toList L b.data.toList true true)) := box (by rw [HJ2.out, if_neg hy]; simp [bs, ByteArray.ext_iff, ByteArray.data_append])
        rw [hyi]
        go_wp2
        go_ret
        exact ⟨by rw [← HE.out]; rfl, B4.out⟩
    · have HE : Box (joinedL st.data.toList L b.data.toList true true = []) := box (by rw [HJ2.out, hall, if_neg (by simp)])
      go_wp2
      go_ret
      exact ⟨by rw [HE.out]; rfl, B4.out⟩
theorem fmt_any (st : ByteArray) (a : Option Addr) (cap : Nat) (L : List F) (b : ByteArray) (sz : Bool) (w : World) (hst : Box (st.size ≤ 100000)) (hb : b.size ≤ 1000000) (S : Box (Sm L)) (hF : Box (Fs w a L)) :
    Calls Tryz.prog 37 #[.string st, .slice a L.length cap, .string b, .bool sz] w fun e w' => e = .returned (.string (bs (joinedL st.data.toList L b.data.toList sz sz))) ∧ Below w.heap.size w w' := by
  rcases h0 : st.toList.isEmpty with _ | _
  · by_cases h63 : 63 < (unfrL L).length
    · exact fmt_no st a cap L _ b sz w S hF (box rfl) hb (.inr (.inl ⟨h0, h63⟩))
    · by_cases h5 : 100000 < b.size
      · exact fmt_no st a cap L _ b sz w S hF (box rfl) hb (.inr (.inr ⟨h0, h63, h5⟩))
      · exact fmt_in st a cap L _ b sz w hst S hF (box rfl) h0 h63 h5
  · exact fmt_no st a cap L _ b sz w S hF (box rfl) hb (.inl h0)
end
section
open Go.RowKit
theorem FReq_is {m t : ByteArray} {n : Int} {x : ByteArray} {w : World} (hm : m.size ≤ 3000) (ht : t.size ≤ 3000) (h1 : Box (InI64 n)) (h : Box (bs (fmtReqL m.data.toList t.data.toList n) = x)) :
    Calls Tryz.prog 36 #[.string m, .string t, .int .i64 n] w fun e w' => e = .returned (.string x) ∧ Below w.heap.size w w' :=
  (FormatRequest_any m t n w hm ht h1).mono fun e w' ⟨h1, h2⟩ => ⟨by rw [h1, h.out], h2⟩
theorem FSta_is {n s : Int} {r : ByteArray} {x : ByteArray} {w : World} (hr : r.size ≤ 3000) (h1 : Box (InI64 n)) (h2 : Box (InI64 s)) (h : Box (bs (fmtStaL n s r.data.toList) = x)) :
    Calls Tryz.prog 41 #[.int .i64 n, .int .i64 s, .string r] w fun e w' => e = .returned (.string x) ∧ Below w.heap.size w w' :=
  (FormatStatus_any n s r w hr h1 h2).mono fun e w' ⟨h1, h2⟩ => ⟨by rw [h1, h.out], h2⟩
theorem fmt_is {st b : ByteArray} {a : Option Addr} {cap : Nat} {L : List F} {sz : Bool} {x : ByteArray} {w : World} (hst : Box (st.size ≤ 100000)) (hb : b.size ≤ 1000000) (S : Box (Sm L)) (hF : Box (Fs w a L)) (h : Box (bs (joinedL st.data.toList L b.data.toList sz sz) = x)) :
    Calls Tryz.prog 37 #[.string st, .slice a L.length cap, .string b, .bool sz] w fun e w' => e = .returned (.string x) ∧ Below w.heap.size w w' :=
  (fmt_any st a cap L b sz w hst hb S hF).mono fun e w' ⟨h1, h2⟩ => ⟨by rw [h1, h.out], h2⟩
def annB (m : ByteArray) : Bool := m.toList == [80, 79, 83, 84] || m.toList == [80, 85, 84] || m.toList == [80, 65, 84, 67, 72]
theorem ann_any (m : ByteArray) (w : World) :
    Calls Tryz.prog 38 #[.string m] w fun e w' => e = .returned (.bool (annB m)) ∧ w' = w := by
  rcases h1 : (m.toList == [80, 79, 83, 84]) with _ | _ <;> rcases h2 : (m.toList == [80, 85, 84]) with _ | _ <;> rcases h3 : (m.toList == [80, 65, 84, 67, 72]) with _ | _
  all_goals
    have HE : Box (annB m = (m.toList == [80, 79, 83, 84] || m.toList == [80, 85, 84] || m.toList == [80, 65, 84, 67, 72])) := box rfl
    simp only [h1, h2, h3, Bool.or_true, Bool.true_or, Bool.false_or, Bool.or_false] at HE
    go_enter Tryz.func38, Tryz.ntmps38
    go_wp2
    go_ret
    exact ⟨ret_bool (by rw [HE.out]), rfl⟩
theorem ann_is {m : ByteArray} {b : Bool} {w : World} (h : Box (annB m = b)) :
    Calls Tryz.prog 38 #[.string m] w fun e w' => e = .returned (.bool b) ∧ w' = w :=
  (ann_any m w).mono fun e w' ⟨h1, h2⟩ => ⟨by rw [h1, h.out], h2⟩
theorem joined_nil (st : List UInt8) (L : List F) : joinedL st L [] false true = joinedL st L [] false false := by
  unfold joinedL; simp
set_option maxHeartbeats 4000000 in
theorem mFmtReq_any (m t : ByteArray) (n : Int) (a : Option Addr) (cap : Nat) (L : List F) (b : ByteArray) (w : World) (hm : m.size ≤ 3000) (ht : t.size ≤ 3000) (h1 : Box (InI64 n)) (hb : b.size ≤ 1000000) (S : Box (Sm L)) (hF : Box (Fs w a L)) :
    Calls Tryz.prog 18 #[.agg #[.string m, .string t, .int .i64 n, .slice a L.length cap, .string b]] w fun e w' => e = .returned (.string (bs (fmtRQ (m.data.toList, t.data.toList, n, L, b.data.toList)))) ∧ Below w.heap.size w w' := by
  obtain ⟨st, hst⟩ : ∃ st, bs (fmtReqL m.data.toList t.data.toList n) = st := ⟨_, rfl⟩
  have HST := box hst
  have HSZ : Box (st.size ≤ 100000) := box (by
    rw [← hst, bs_size]
    have e1 : m.data.toList.length = m.size := by simp
    have e2 : t.data.toList.length = t.size := by simp
    rcases fmtReq_le (m := m.data.toList) (t := t.data.toList) (n := n) with h | h <;> omega)
  obtain ⟨x, hx⟩ : ∃ x, bs (fmtRQ (m.data.toList, t.data.toList, n, L, b.data.toList)) = x := ⟨_, rfl⟩
  have hlnE : lengthB m.data.toList b.data.toList = (!b.toList.isEmpty || annB m) := by
    unfold lengthB annB; rw [toList_data, toList_data]
    cases b.data.toList.isEmpty <;> cases (m.data.toList == [80, 79, 83, 84]) <;> cases (m.data.toList == [80, 85, 84]) <;> cases (m.data.toList == [80, 65, 84, 67, 72]) <;> rfl
  have HX : Box (∀ sz, (!b.toList.isEmpty || annB m) = sz → bs (joinedL st.data.toList L b.data.toList sz sz) = x) := box (by
    intro sz hsz
    rw [← hx, ← hst, bs_toList]; unfold fmtRQ; rw [hlnE, hsz]
    cases sz
    · have : b.data.toList = [] := nil_of_empty (by cases h : b.toList.isEmpty <;> simp_all)
      simp only [this, joined_nil]
    · rfl)
  have HE := box hx
  have C0 := box (C5.new (.string m) (.string t) (.int .i64 n) (.slice a L.length cap) (.string b) w 24)
  have F0 := box (hF.out.below (below_new w (.cells #[.string m, .string t, .int .i64 n, .slice a L.length cap, .string b] 24)))
  clear hst hlnE hx
  rcases hbe : b.toList.isEmpty with _ | _
  · have HX2 := box (HX.out true (by rw [hbe]; rfl))
    clear HX
    go_enter Tryz.func18, Tryz.ntmps18
    go_wp2_with fail
    refine (FReq_is hm ht h1 HST).mono ?_; rintro e w1 ⟨rfl, hb1⟩
    have C1 := box (C0.out.next hb1)
    have F1 := box (F0.out.below hb1)
    have B1 := box ((below_new w _).trans (hb1.mono (below_new w _).size))
    clear hb1
    obtain ⟨⟨r0, r1, r2, r3, r4⟩, _⟩ := C1.out
    go_wp2
    have hb0 : (!b.toList.isEmpty) = true := by rw [hbe]; rfl
    go_still_tail 13, (by kernel_rfl)
    have hbd : Below w1.heap.size w1 w1.drew := (Below.refl _ _).drew
    have FD := box (F1.out.below hbd)
    have BD := box (B1.out.trans (hbd.mono B1.out.size))
    clear hbd
    change wpList _ _ _ _ _ w1.drew
    generalize w1.drew = W at FD BD ⊢
    go_wp2_with fail
    refine (fmt_is HSZ hb S FD HX2).mono ?_; rintro e w2 ⟨rfl, hb2⟩
    have B2 := box (BD.out.trans (hb2.mono BD.out.size))
    clear hb2
    go_wp2
    go_ret
    exact ⟨by rw [HE.out]; rfl, B2.out⟩
  · obtain ⟨an, han⟩ : ∃ an, annB m = an := ⟨_, rfl⟩
    have HAN := box han
    have HX2 := box (HX.out an (by rw [hbe, han]; rfl))
    clear HX han
    go_enter Tryz.func18, Tryz.ntmps18
    go_wp2_with fail
    refine (FReq_is hm ht h1 HST).mono ?_; rintro e w1 ⟨rfl, hb1⟩
    have C1 := box (C0.out.next hb1)
    have F1 := box (F0.out.below hb1)
    have B1 := box ((below_new w _).trans (hb1.mono (below_new w _).size))
    clear hb1
    obtain ⟨⟨r0, r1, r2, r3, r4⟩, _⟩ := C1.out
    go_wp2
    go_region_held3 (fun w' => w'.cell? ⟨w.heap.size, 0, none⟩ = some (.string m) ∧ w'.cell? ⟨w.heap.size, 1, none⟩ = some (.string t) ∧ w'.cell? ⟨w.heap.size, 2, none⟩ = some (.int .i64 n) ∧ w'.cell? ⟨w.heap.size, 3, none⟩ = some (.slice a L.length cap) ∧ w'.cell? ⟨w.heap.size, 4, none⟩ = some (.string b)) (first | exact C1.out.1 | exact (C5.drewN C1.out).1 | exact C2.out.1 | exact (C5.drewN C2.out).1) (first | (go_at_call 37; refine (fmt_is HSZ hb S (box (F1.out.below (below_drewN _ _))) HX2).mono ?_; rintro e w2 ⟨rfl, hb2⟩; have C2 := box ((C5.drewN C1.out).next hb2); have B2 := box (B1.out.trans (((below_drewN _ _).trans hb2).mono B1.out.size)); clear hb2) | (go_at_call 38; refine (ann_is HAN).mono ?_; rintro e w3 ⟨rfl, rfl⟩))
    all_goals
      go_wp2
      go_ret
      exact ⟨by rw [HE.out]; rfl, B2.out⟩
set_option maxHeartbeats 4000000 in
theorem mFmtRes_any (n s : Int) (r : ByteArray) (a : Option Addr) (cap : Nat) (L : List F) (b me : ByteArray) (w : World) (hr : r.size ≤ 3000) (hm : me.size ≤ 65536) (h1 : Box (InI64 n)) (h2 : Box (InI64 s)) (hb : b.size ≤ 1000000) (S : Box (Sm L)) (hF : Box (Fs w a L)) :
    Calls Tryz.prog 20 #[.agg #[.int .i64 n, .int .i64 s, .string r, .slice a L.length cap, .string b], .string me] w fun e w' => e = .returned (.string (bs (fmtRS (n, s, r.data.toList, L, b.data.toList) me.data.toList))) ∧ Below w.heap.size w w' := by
  obtain ⟨st, hst⟩ : ∃ st, bs (fmtStaL n s r.data.toList) = st := ⟨_, rfl⟩
  have HST := box hst
  have HSZ : Box (st.size ≤ 100000) := box (by
    rw [← hst, bs_size]
    have e1 : r.data.toList.length = r.size := by simp
    have h := fmtSta_le (n := n) (s := s) (r := r.data.toList)
    omega)
  obtain ⟨nb, hnb⟩ : ∃ nb, bodilessL s me.data.toList = nb := ⟨_, rfl⟩
  obtain ⟨x, hx⟩ : ∃ x, bs (fmtRS (n, s, r.data.toList, L, b.data.toList) me.data.toList) = x := ⟨_, rfl⟩
  have HX2 : Box (bs (joinedL st.data.toList L b.data.toList (!nb) (!nb)) = x) := box (by rw [← hx, ← hst, bs_toList]; unfold fmtRS; rw [hnb])
  have HE := box hx
  have HNB := box hnb
  have C0 := box (C5.new (.int .i64 n) (.int .i64 s) (.string r) (.slice a L.length cap) (.string b) w 32)
  have F0 := box (hF.out.below (below_new w (.cells #[.int .i64 n, .int .i64 s, .string r, .slice a L.length cap, .string b] 32)))
  clear hst hx hnb
  go_enter Tryz.func20, Tryz.ntmps20
  go_wp2_with fail
  refine (FSta_is hr h1 h2 HST).mono ?_; rintro e w1 ⟨rfl, hb1⟩
  have C1 := box (C0.out.next hb1)
  have F1 := box (F0.out.below hb1)
  have B1 := box ((below_new w _).trans (hb1.mono (below_new w _).size))
  clear hb1
  obtain ⟨⟨r0, r1, r2, r3, r4⟩, _⟩ := C1.out
  go_wp2
  go_region_held3 (fun w' => w'.cell? ⟨w.heap.size, 0, none⟩ = some (.int .i64 n) ∧ w'.cell? ⟨w.heap.size, 1, none⟩ = some (.int .i64 s) ∧ w'.cell? ⟨w.heap.size, 2, none⟩ = some (.string r) ∧ w'.cell? ⟨w.heap.size, 3, none⟩ = some (.slice a L.length cap) ∧ w'.cell? ⟨w.heap.size, 4, none⟩ = some (.string b)) (first | exact C1.out.1 | exact (C5.drewN C1.out).1 | exact C2.out.1 | exact (C5.drewN C2.out).1) (first | (go_at_call 37; refine (fmt_is HSZ hb S (box (F1.out.below (below_drewN _ _))) HX2).mono ?_; rintro e w2 ⟨rfl, hb2⟩; have C2 := box ((C5.drewN C1.out).next hb2); have B2 := box (B1.out.trans (((below_drewN _ _).trans hb2).mono B1.out.size)); clear hb2) | (go_at_call 22; refine (mBod_is hm HNB).mono ?_; rintro e w3 ⟨rfl, rfl⟩))
  all_goals
    go_wp2
    go_ret
    exact ⟨by rw [HE.out]; rfl, B2.out⟩
end
section
open Go.RowKit Go.ChangeShapes Go.WideShapes Go.Deep
def strOf : Value → ByteArray
  | .string s => s
  | _ => ByteArray.empty
end
section
open Go.RowKit
/-- a URI lies at the block's start, and may be written -/
def UF (g : Nat) (h : ByteArray) (n : Int) (p q : ByteArray) (b : Bool) (w : World) : Prop :=
  (w.cell? ⟨g, 0, none⟩ = some (.string h) ∧ w.cell? ⟨g, 1, none⟩ = some (.int .i64 n) ∧ w.cell? ⟨g, 2, none⟩ = some (.string p) ∧ w.cell? ⟨g, 3, none⟩ = some (.string q) ∧ w.cell? ⟨g, 4, none⟩ = some (.bool b)) ∧
  (w.frozen? ⟨g, 0, none⟩ = false ∧ w.frozen? ⟨g, 1, none⟩ = false ∧ w.frozen? ⟨g, 2, none⟩ = false ∧ w.frozen? ⟨g, 3, none⟩ = false ∧ w.frozen? ⟨g, 4, none⟩ = false)
section
variable {g B : Nat} {h p q : ByteArray} {n : Int} {b : Bool} {w w' : World}
theorem UF.new (h : ByteArray) (n : Int) (p q : ByteArray) (b : Bool) (w : World) (t : TypeId) : UF w.heap.size h n p q b (w.alloc (.cells #[.string h, .int .i64 n, .string p, .string q, .bool b] t)) := by
  refine ⟨⟨?_, ?_, ?_, ?_, ?_⟩, ⟨?_, ?_, ?_, ?_, ?_⟩⟩
  all_goals first
    | (rw [World.cell?_alloc_mark]; rfl)
    | exact World.frozen?_alloc_at _ _ _ _ rfl
theorem UF.below (f : UF g h n p q b w) (hb : Below B w w') (hg : g < B) : UF g h n p q b w' := by
  obtain ⟨⟨h0, h1, h2, h3, h4⟩, ⟨f0, f1, f2, f3, f4⟩⟩ := f
  exact ⟨⟨(hb.cell hg).trans h0, (hb.cell hg).trans h1, (hb.cell hg).trans h2, (hb.cell hg).trans h3, (hb.cell hg).trans h4⟩,
    ⟨(hb.frozen hg).trans f0, (hb.frozen hg).trans f1, (hb.frozen hg).trans f2, (hb.frozen hg).trans f3, (hb.frozen hg).trans f4⟩⟩
theorem UF.lt (f : UF g h n p q b w) : g < w.heap.size := by
  have h1 := f.1.1
  rcases Nat.lt_or_ge g w.heap.size with k | k
  · exact k
  · simp [World.cell?, Array.getElem?_eq_none k] at h1
end
end
section
open Go.RowKit Go.ChangeShapes Go.WideShapes Go.Deep
theorem laidT : laidOutB Tryz.prog = true := by kernel_rfl
theorem five {α : Type} {cs : Array α} (h : cs.size = 5) : ∃ c0 c1 c2 c3 c4, cs = #[c0, c1, c2, c3, c4] := by
  obtain ⟨l⟩ := cs
  match l, h with
  | [c0, c1, c2, c3, c4], _ => exact ⟨c0, c1, c2, c3, c4, rfl⟩
end
section
open Go.RowKit Go.ChangeShapes Go.WideShapes Go.Deep
def rqV (m t : ByteArray) (n : Int) (a : Option Addr) (cap : Nat) (L : List F) (b : ByteArray) : Value := .agg #[.string m, .string t, .int .i64 n, .slice a L.length cap, .string b]
def rsV (n s : Int) (r : ByteArray) (a : Option Addr) (cap : Nat) (L : List F) (b : ByteArray) : Value := .agg #[.int .i64 n, .int .i64 s, .string r, .slice a L.length cap, .string b]
theorem fields_trod {H : Type} {enc : TypeId × Value → H} {W : World} {base fuel : Nat} {sp : Nat → Bool} {held : Bool} {cs : List Value} {x : DataW H × List MemPlace}
    (h : DataW.trod enc Tryz.prog W base sp held fuel 22 cs = some x) :
    ∃ (a : Option Addr) (cap : Nat) (L : List F), cs = [.slice a L.length cap] ∧ L.length ≤ maxLen ∧ Fs W a L ∧ L.length ≤ cap := by
  rcases open_slice_pairs Tryz.underlying22 Tryz.underlying77 (by kernel_rfl) rfl rfl (by kernel_rfl) (by kernel_rfl) h with ⟨hcs, hx⟩ | ⟨a, len, cap, m, n, V0, V1, D0, D1, P0, P1, hcs, _, hl, hm, hmm, hx, hi⟩
  · exact ⟨none, 0, [], hcs, Nat.zero_le _, fun i hi => absurd hi (by simp), Nat.le_refl _⟩
  · have hlm : len ≤ m := by rw [hmm]; split <;> omega
    refine ⟨some a, cap, (List.range len).map fun i => (strOf (V0 i), strOf (V1 i)), by simpa using hcs, by simp; omega, fun i hi2 => ?_, by simp; omega⟩
    have hil : i < len := by simpa using hi2
    obtain ⟨g, off, spot⟩ := a
    obtain ⟨z0, _, _, _⟩ := hi 0 (by omega)
    have hspot : spot = none := by simpa [Addr.add] using World.cell?_spot z0
    subst hspot
    obtain ⟨k0, k1, t0, t1⟩ := hi i (by omega)
    obtain ⟨s0, e0, _, _⟩ := DataW.trod_string Tryz.underlying9 t0
    obtain ⟨s1, e1, _, _⟩ := DataW.trod_string Tryz.underlying9 t1
    rw [add_plain] at k0 k1
    simp at e0 e1
    refine ⟨g, off, rfl, ?_, ?_⟩
    · rw [k0, e0]; simp [strOf, e0]
    · rw [← Nat.add_assoc] at k1
      rw [k1, e1]; simp [strOf, e1]
theorem open_request {H : Type} {enc : TypeId × Value → H} {W : World} {base : Nat} {sp : Nat → Bool} {held : Bool} {r : Reach} {b0 : Nat} {v : Value} {d : DataW H} {ps : List MemPlace}
    (hval : Value.okWide Tryz.prog W r b0 24 v) (h : DataW.Trod enc Tryz.prog W base sp held 24 v d ps) :
    ∃ (m t : ByteArray) (n : Int) (a : Option Addr) (cap : Nat) (L : List F) (b : ByteArray), v = rqV m t n a cap L b ∧ m.size ≤ maxLen ∧ t.size ≤ maxLen ∧ (Lit.int .i64 n).wf = true ∧ L.length ≤ maxLen ∧ Fs W a L ∧ b.size ≤ maxLen := by
  obtain ⟨cs, rfl, hsz⟩ := okWide_struct Tryz.underlying24 hval
  rw [show Tryz.prog.cellsOf 24 = 5 from by kernel_rfl] at hsz
  obtain ⟨c0, c1, c2, c3, c4, rfl⟩ := five hsz
  obtain ⟨fuel, hf⟩ := h
  obtain ⟨xs, m, _, _, _, hlen, hg⟩ := DataW.trod_struct Tryz.underlying24 hf
  have cS : Tryz.prog.cellsOf 9 = 1 := by kernel_rfl
  have cI : Tryz.prog.cellsOf 3 = 1 := by kernel_rfl
  have cF : Tryz.prog.cellsOf 22 = 1 := by kernel_rfl
  have g0 := hg 0 _ rfl
  have g1 := hg 1 _ rfl
  have g2 := hg 2 _ rfl
  have g3 := hg 3 _ rfl
  have g4 := hg 4 _ rfl
  have hl : xs.length = 5 := hlen
  match xs, hl with
  | [y0, y1, y2, y3, y4], _ =>
    simp [Value.cells, cS, cI, cF] at g0 g1 g2 g3 g4
    obtain ⟨x, e0, _, w0⟩ := DataW.trod_string Tryz.underlying9 g0
    obtain ⟨y, e1, _, w1⟩ := DataW.trod_string Tryz.underlying9 g1
    obtain ⟨n, e2, _, w2⟩ := DataW.trod_int Tryz.underlying3 g2
    obtain ⟨a, cap, L, e3, l3, f3, _⟩ := fields_trod g3
    obtain ⟨q, e4, _, w4⟩ := DataW.trod_string Tryz.underlying9 g4
    simp at e0 e1 e2 e3 e4
    subst e0 e1 e2 e3 e4
    exact ⟨x, y, n, a, cap, L, q, rfl, w0, w1, w2, l3, f3, w4⟩
theorem open_response {H : Type} {enc : TypeId × Value → H} {W : World} {base : Nat} {sp : Nat → Bool} {held : Bool} {r : Reach} {b0 : Nat} {v : Value} {d : DataW H} {ps : List MemPlace}
    (hval : Value.okWide Tryz.prog W r b0 32 v) (h : DataW.Trod enc Tryz.prog W base sp held 32 v d ps) :
    ∃ (n s : Int) (t : ByteArray) (a : Option Addr) (cap : Nat) (L : List F) (b : ByteArray), v = rsV n s t a cap L b ∧ (Lit.int .i64 n).wf = true ∧ (Lit.int .i64 s).wf = true ∧ t.size ≤ maxLen ∧ L.length ≤ maxLen ∧ Fs W a L ∧ b.size ≤ maxLen := by
  obtain ⟨cs, rfl, hsz⟩ := okWide_struct Tryz.underlying32 hval
  rw [show Tryz.prog.cellsOf 32 = 5 from by kernel_rfl] at hsz
  obtain ⟨c0, c1, c2, c3, c4, rfl⟩ := five hsz
  obtain ⟨fuel, hf⟩ := h
  obtain ⟨xs, m, _, _, _, hlen, hg⟩ := DataW.trod_struct Tryz.underlying32 hf
  have cS : Tryz.prog.cellsOf 9 = 1 := by kernel_rfl
  have cI : Tryz.prog.cellsOf 3 = 1 := by kernel_rfl
  have cF : Tryz.prog.cellsOf 22 = 1 := by kernel_rfl
  have g0 := hg 0 _ rfl
  have g1 := hg 1 _ rfl
  have g2 := hg 2 _ rfl
  have g3 := hg 3 _ rfl
  have g4 := hg 4 _ rfl
  have hl : xs.length = 5 := hlen
  match xs, hl with
  | [y0, y1, y2, y3, y4], _ =>
    simp [Value.cells, cS, cI, cF] at g0 g1 g2 g3 g4
    obtain ⟨x, e0, _, w0⟩ := DataW.trod_int Tryz.underlying3 g0
    obtain ⟨y, e1, _, w1⟩ := DataW.trod_int Tryz.underlying3 g1
    obtain ⟨n, e2, _, w2⟩ := DataW.trod_string Tryz.underlying9 g2
    obtain ⟨a, cap, L, e3, l3, f3, _⟩ := fields_trod g3
    obtain ⟨q, e4, _, w4⟩ := DataW.trod_string Tryz.underlying9 g4
    simp at e0 e1 e2 e3 e4
    subst e0 e1 e2 e3 e4
    exact ⟨x, y, n, a, cap, L, q, rfl, w0, w1, w2, l3, f3, w4⟩
end
end Go.Proofs.YtjabcfabenobiaaGreat.Asc
