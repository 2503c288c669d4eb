/- Merged texts: MedMine LanMT LanSpec3 CodMine. -/
import Derived.Test.YtnpllgjkbpnimaaDoorM03
import Derived.Test.YtnpllgjkbpnimaaDoorM04
import Derived.Test.YtnpllgjkbpnimaaDoorM05
import Derived.Test.YtnpllgjkbpnimaaDoorM08
import Derived.Test.YtnpllgjkbpnimaaDoorM09
import Derived.Test.YtnpllgjkbpnimaaDoorM10
set_option linter.unusedVariables false
set_option linter.unusedSimpArgs false
set_option maxRecDepth 100000
namespace Go.Proofs.YtnpllgjkbpnimaaDoor.Asc
section
open Go.RowKit
/-- Parse of param with its results as letters -/
theorem mParO_is {s x : ByteArray} {K : List F} {b : Bool} {w : World} (hs : s.size ≤ 65000) (h : Box (parA s.data.toList = x ∧ parB s.data.toList = K ∧ parO s.data.toList = b)) :
    Calls Tryd.prog 37 #[.string s] w fun e w' => ∃ a cap, e = .returned (.tuple #[.string x, .slice a K.length cap, .bool b]) ∧ OwnP w' w.heap.size (.slice a K.length cap) K ∧ Below w.heap.size w w' :=
  (mPar_any s w hs).mono fun e w' ⟨v, h1, h2, h3⟩ => by
    obtain ⟨rfl, rfl, rfl⟩ := h.out
    obtain ⟨a, cap, rfl, hS, hc⟩ := h2.fs
    exact ⟨a, cap, h1, h2, h3⟩
theorem mFmt10_any (a b : ByteArray) (p : Option Addr) (cap : Nat) (L : List F) (w : World) (ha : a.size ≤ 30000) (hb : b.size ≤ 30000) (hl : L.length ≤ 65536) (hz : Box (∀ i (hi : i < L.length), L[i].1.size ≤ 65536 ∧ L[i].2.size ≤ 65536)) (hF : Box (Fs w p L)) :
    Calls Tryd.prog 82 #[.agg #[.string a, .string b, .slice p L.length cap]] w fun e w' => e = .returned (.string (fmtMB (a, b, L))) ∧ Below w.heap.size w w' := by
  have s1 : (a ++ (⟨#[47]⟩ : ByteArray)).size = a.size + 1 := by rw [ByteArray.size_append]; rfl
  have r1 : ∀ w, (Op.stringOp .add a ⟨#[47]⟩).run Tryd.prog w = .ok (.string (a ++ ⟨#[47]⟩)) w := fun w => run_string_add_sum w _ _ (by show a.size + 1 ≤ 9223372036854775807; omega)
  have r2 : ∀ w, (Op.stringOp .add (a ++ (⟨#[47]⟩ : ByteArray)) b).run Tryd.prog w = .ok (.string (a ++ ⟨#[47]⟩ ++ b)) w := fun w => run_string_add_sum w _ _ (by rw [s1]; show a.size + 1 + b.size ≤ 9223372036854775807; omega)
  have hv : (a ++ (⟨#[47]⟩ : ByteArray) ++ b).size ≤ 65536 := by rw [ByteArray.size_append, s1]; omega
  clear s1
  go_enter Tryd.func82, Tryd.ntmps82
  go_wp2_with fail
  refine (mFmt9_any (a ++ (⟨#[47]⟩ : ByteArray) ++ b) p cap L _ hv hl hz (box (hF.out.below (below_new w _)))).mono ?_; rintro e w1 ⟨rfl, hb1⟩
  have B1 := box ((below_new w _).trans (hb1.mono (below_new w _).size))
  clear hb1
  go_wp2
  go_ret
  exact ⟨rfl, B1.out⟩
theorem tok_nil : tokL [] = false := rfl
/-- a range without a slash is none, by its empty subtype -/
theorem type_as (v : List UInt8) : typeL v = if tokL (cut1 47 v) = false ∨ tokL (cut2 47 v) = false then none
    else if cut1 47 v = [42] ∧ cut2 47 v ≠ [42] then none else some (bs (lowL (cut1 47 v)), bs (lowL (cut2 47 v))) := by
  unfold typeL
  rcases hb : cutB 47 v with _ | _
  · have : cut2 47 v = [] := by
      rcases idx_cases v 47 with hi | ⟨o, hi, ho⟩
      · exact (cut_no hi).2.1
      · rw [(cut_at hi).2.2.2] at hb; exact absurd hb (by decide)
    rw [this, tok_nil]
    simp
  · rcases h1 : tokL (cut1 47 v) with _ | _ <;> rcases h2 : tokL (cut2 47 v) with _ | _ <;> simp
theorem mRange_0 (s x : ByteArray) (K : List F) (w : World) (hs : s.size ≤ 65000) (H : Box (parA s.data.toList = x ∧ parB s.data.toList = K ∧ parO s.data.toList = false)) (HR : Box (rangeL s.data.toList = none)) :
    Calls Tryd.prog 81 #[.string s] w fun e w' => medW w w' (rangeL s.data.toList) e := by
  go_enter Tryd.func81, Tryd.ntmps81
  go_wp2_with fail
  refine (mParO_is hs H).mono ?_; rintro e w1 ⟨a1, cap1, rfl, hO1, hb1⟩
  have O1 := box hO1
  have C1 := box ((C3.new (.string ⟨#[]⟩) (.string ⟨#[]⟩) (.slice none 0 0) w 68).next hb1)
  have B1 := box ((below_new w _).trans (hb1.mono (below_new w _).size))
  clear hO1 hb1
  obtain ⟨⟨r0, r1, r2⟩, ⟨f0, f1, f2⟩⟩ := C1.out
  go_wp2
  (try simp only [Exit.inBlock, Exit.then])
  refine bodyPost_ret (v := .tuple #[.agg #[.string ⟨#[]⟩, .string ⟨#[]⟩, .slice none 0 0], .bool false]) (by rw [results_cell_tmp rfl]; go_simp) rfl ?_
  exact medW_none HR (below3 B1.out (Nat.le_refl _) _ _ _)
theorem mRange_1 (s x m n : ByteArray) (K : List F) (q : Bool) (w : World) (hs : s.size ≤ 65000) (H : Box (parA s.data.toList = x ∧ parB s.data.toList = K ∧ parO s.data.toList = true)) (HXM : Box (x.size ≤ maxLen)) (HMM : Box (m.size ≤ maxLen)) (HNM : Box (n.size ≤ maxLen)) (HV : Box (cutV 47 x.data.toList = .tuple #[.string m, .string n, .bool q])) (HT1 : Box (tokL m.data.toList = false)) (HR : Box (rangeL s.data.toList = none)) :
    Calls Tryd.prog 81 #[.string s] w fun e w' => medW w w' (rangeL s.data.toList) e := by
  go_enter Tryd.func81, Tryd.ntmps81
  go_wp2_with fail
  refine (mParO_is hs H).mono ?_; rintro e w1 ⟨a1, cap1, rfl, hO1, hb1⟩
  have O1 := box hO1
  have C1 := box ((C3.new (.string ⟨#[]⟩) (.string ⟨#[]⟩) (.slice none 0 0) w 68).next hb1)
  have B1 := box ((below_new w _).trans (hb1.mono (below_new w _).size))
  clear hO1 hb1
  go_wp2_with fail
  refine (Cut_any x 47 _ HXM.out).mono ?_; rintro e w2 ⟨rfl, hb2⟩; rw [HV.out]
  have O2 := box (own_below O1.out hb2)
  have C2 := box (C1.out.next hb2)
  have B2 := box (B1.out.trans (hb2.mono B1.out.size))
  clear hb2 O1 C1 B1
  go_wp2_with fail
  refine (aToken_is HMM.out HT1).mono ?_; rintro e w3 ⟨rfl, rfl⟩
  obtain ⟨⟨r0, r1, r2⟩, ⟨f0, f1, f2⟩⟩ := C2.out
  go_wp2
  (try simp only [Exit.inBlock, Exit.then])
  refine bodyPost_ret (v := .tuple #[.agg #[.string ⟨#[]⟩, .string ⟨#[]⟩, .slice none 0 0], .bool false]) (by rw [results_cell_tmp rfl]; go_simp) rfl ?_
  exact medW_none HR (below3 B2.out (Nat.le_refl _) _ _ _)
theorem mRange_2 (s x m n : ByteArray) (K : List F) (q : Bool) (w : World) (hs : s.size ≤ 65000) (H : Box (parA s.data.toList = x ∧ parB s.data.toList = K ∧ parO s.data.toList = true)) (HXM : Box (x.size ≤ maxLen)) (HMM : Box (m.size ≤ maxLen)) (HNM : Box (n.size ≤ maxLen)) (HV : Box (cutV 47 x.data.toList = .tuple #[.string m, .string n, .bool q])) (HT1 : Box (tokL m.data.toList = true)) (HT2 : Box (tokL n.data.toList = false)) (HR : Box (rangeL s.data.toList = none)) :
    Calls Tryd.prog 81 #[.string s] w fun e w' => medW w w' (rangeL s.data.toList) e := by
  go_enter Tryd.func81, Tryd.ntmps81
  go_wp2_with fail
  refine (mParO_is hs H).mono ?_; rintro e w1 ⟨a1, cap1, rfl, hO1, hb1⟩
  have O1 := box hO1
  have C1 := box ((C3.new (.string ⟨#[]⟩) (.string ⟨#[]⟩) (.slice none 0 0) w 68).next hb1)
  have B1 := box ((below_new w _).trans (hb1.mono (below_new w _).size))
  clear hO1 hb1
  go_wp2_with fail
  refine (Cut_any x 47 _ HXM.out).mono ?_; rintro e w2 ⟨rfl, hb2⟩; rw [HV.out]
  have O2 := box (own_below O1.out hb2)
  have C2 := box (C1.out.next hb2)
  have B2 := box (B1.out.trans (hb2.mono B1.out.size))
  clear hb2 O1 C1 B1
  go_wp2_with fail
  refine (aToken_is HMM.out HT1).mono ?_; rintro e w3 ⟨rfl, rfl⟩
  go_wp2_with fail
  refine (aToken_is HNM.out HT2).mono ?_; rintro e w3 ⟨rfl, rfl⟩
  obtain ⟨⟨r0, r1, r2⟩, ⟨f0, f1, f2⟩⟩ := C2.out
  go_wp2
  (try simp only [Exit.inBlock, Exit.then])
  refine bodyPost_ret (v := .tuple #[.agg #[.string ⟨#[]⟩, .string ⟨#[]⟩, .slice none 0 0], .bool false]) (by rw [results_cell_tmp rfl]; go_simp) rfl ?_
  exact medW_none HR (below3 B2.out (Nat.le_refl _) _ _ _)
theorem mRange_3 (s x m n : ByteArray) (K : List F) (q : Bool) (w : World) (hs : s.size ≤ 65000) (H : Box (parA s.data.toList = x ∧ parB s.data.toList = K ∧ parO s.data.toList = true)) (HXM : Box (x.size ≤ maxLen)) (HMM : Box (m.size ≤ maxLen)) (HNM : Box (n.size ≤ maxLen)) (HV : Box (cutV 47 x.data.toList = .tuple #[.string m, .string n, .bool q])) (HT1 : Box (tokL m.data.toList = true)) (HT2 : Box (tokL n.data.toList = true)) (q1 : (m.toList == [42]) = true) (q2 : (n.toList == [42]) = false) (HR : Box (rangeL s.data.toList = none)) :
    Calls Tryd.prog 81 #[.string s] w fun e w' => medW w w' (rangeL s.data.toList) e := by
  have q3 : (n.toList != [42]) = true := by unfold bne; rw [q2]; rfl
  go_enter Tryd.func81, Tryd.ntmps81
  go_wp2_with fail
  refine (mParO_is hs H).mono ?_; rintro e w1 ⟨a1, cap1, rfl, hO1, hb1⟩
  have O1 := box hO1
  have C1 := box ((C3.new (.string ⟨#[]⟩) (.string ⟨#[]⟩) (.slice none 0 0) w 68).next hb1)
  have B1 := box ((below_new w _).trans (hb1.mono (below_new w _).size))
  clear hO1 hb1
  go_wp2_with fail
  refine (Cut_any x 47 _ HXM.out).mono ?_; rintro e w2 ⟨rfl, hb2⟩; rw [HV.out]
  have O2 := box (own_below O1.out hb2)
  have C2 := box (C1.out.next hb2)
  have B2 := box (B1.out.trans (hb2.mono B1.out.size))
  clear hb2 O1 C1 B1
  go_wp2_with fail
  refine (aToken_is HMM.out HT1).mono ?_; rintro e w3 ⟨rfl, rfl⟩
  go_wp2_with fail
  refine (aToken_is HNM.out HT2).mono ?_; rintro e w3 ⟨rfl, rfl⟩
  obtain ⟨⟨r0, r1, r2⟩, ⟨f0, f1, f2⟩⟩ := C2.out
  go_wp2
  (try simp only [Exit.inBlock, Exit.then])
  refine bodyPost_ret (v := .tuple #[.agg #[.string ⟨#[]⟩, .string ⟨#[]⟩, .slice none 0 0], .bool false]) (by rw [results_cell_tmp rfl]; go_simp) rfl ?_
  exact medW_none HR (below3 B2.out (Nat.le_refl _) _ _ _)
theorem mRange_4 (s x m n : ByteArray) (K : List F) (q : Bool) (w : World) (hs : s.size ≤ 65000) (H : Box (parA s.data.toList = x ∧ parB s.data.toList = K ∧ parO s.data.toList = true)) (HXM : Box (x.size ≤ maxLen)) (HMM : Box (m.size ≤ maxLen)) (HNM : Box (n.size ≤ maxLen)) (HV : Box (cutV 47 x.data.toList = .tuple #[.string m, .string n, .bool q])) (HT1 : Box (tokL m.data.toList = true)) (HT2 : Box (tokL n.data.toList = true)) (b1 b2 : Bool) (q1 : (m.toList == [42]) = b1) (q2 : (n.toList == [42]) = b2) (hb : b1 = false ∨ b2 = true) (hm4 : m.size ≤ 4294967296) (hn4 : n.size ≤ 4294967296)
    (nm sb : ByteArray) (HL1 : Box (bs (lowL m.data.toList) = nm)) (HL2 : Box (bs (lowL n.data.toList) = sb)) (HR : Box (rangeL s.data.toList = some (nm, sb, K))) :
    Calls Tryd.prog 81 #[.string s] w fun e w' => medW w w' (rangeL s.data.toList) e := by
  have q3 : (n.toList != [42]) = !b2 := by unfold bne; rw [q2]
  rcases b1 with _ | _ <;> rcases b2 with _ | _
  all_goals first | (exfalso; simp at hb; done) | skip
  all_goals
    go_enter Tryd.func81, Tryd.ntmps81
    go_wp2_with fail
    refine (mParO_is hs H).mono ?_; rintro e w1 ⟨a1, cap1, rfl, hO1, hb1⟩
    have O1 := box hO1
    have C1 := box ((C3.new (.string ⟨#[]⟩) (.string ⟨#[]⟩) (.slice none 0 0) w 68).next hb1)
    have B1 := box ((below_new w _).trans (hb1.mono (below_new w _).size))
    clear hO1 hb1
    go_wp2_with fail
    refine (Cut_any x 47 _ HXM.out).mono ?_; rintro e w2 ⟨rfl, hb2⟩; rw [HV.out]
    have O2 := box (own_below O1.out hb2)
    have C2 := box (C1.out.next hb2)
    have B2 := box (B1.out.trans (hb2.mono B1.out.size))
    clear hb2 O1 C1 B1
    go_wp2_with fail
    refine (aToken_is HMM.out HT1).mono ?_; rintro e w3 ⟨rfl, rfl⟩
    go_wp2_with fail
    refine (aToken_is HNM.out HT2).mono ?_; rintro e w3 ⟨rfl, rfl⟩
    go_wp2_with fail
    refine (aLower_is hm4 HL1).mono ?_; rintro e w4 ⟨rfl, hb4⟩
    go_wp2_with fail
    refine (aLower_is hn4 HL2).mono ?_; rintro e w5 ⟨rfl, hb5⟩
    have hb6 := hb4.trans (hb5.mono hb4.size)
    have O6 := own_below O2.out hb6
    have B6 := B2.out.trans (hb6.mono B2.out.size)
    obtain ⟨⟨r0, r1, r2⟩, ⟨f0, f1, f2⟩⟩ := C2.out.next hb6
    clear hb4 hb5 hb6
    go_wp2
    (try simp only [Exit.inBlock, Exit.then])
    refine bodyPost_ret (v := .tuple #[.agg #[.string nm, .string sb, .slice a1 K.length cap1], .bool true]) (by rw [results_cell_tmp rfl]; go_simp) rfl ?_
    exact medW_some HR (own_le (own_only O6 (only3 _ _ _ _ _) (by simp)) (by simp)) (below3 B6 (Nat.le_refl _) _ _ _)
theorem mRange_any (s : ByteArray) (w : World) (hs : s.size ≤ 65000) :
    Calls Tryd.prog 81 #[.string s] w fun e w' => medW w w' (rangeL s.data.toList) e := by
  obtain ⟨x, hx⟩ : ∃ x, parA s.data.toList = x := ⟨_, rfl⟩
  obtain ⟨K, hK⟩ : ∃ K, parB s.data.toList = K := ⟨_, rfl⟩
  have hxz : x.size ≤ 65000 := by rw [← hx]; exact Nat.le_trans (parA_size s) hs
  rcases hb : parO s.data.toList with _ | _
  · exact mRange_0 s x K w hs (box ⟨hx, hK, hb⟩) (box (range_par hb))
  · obtain ⟨m, hm⟩ : ∃ m, bs (cut1 47 x.data.toList) = m := ⟨_, rfl⟩
    obtain ⟨n, hn⟩ : ∃ n, bs (cut2 47 x.data.toList) = n := ⟨_, rfl⟩
    have HV : Box (cutV 47 x.data.toList = .tuple #[.string m, .string n, .bool (cutB 47 x.data.toList)]) := box (by unfold cutV; rw [hm, hn])
    have hxl : x.data.toList.length = x.size := by simp
    have hmz : m.size ≤ 65000 := by
      rw [← hm, bs_size]
      have : (cut1 47 x.data.toList).length ≤ x.data.toList.length := by unfold cut1; exact (List.takeWhile_sublist _).length_le
      omega
    have hnz : n.size ≤ 65000 := by
      rw [← hn, bs_size]
      have : (cut2 47 x.data.toList).length ≤ x.data.toList.length := by
        unfold cut2; rw [List.length_drop]; have := (List.dropWhile_sublist (· != (47 : UInt8)) (l := x.data.toList)).length_le; omega
      omega
    have hm1 : m.data.toList = cut1 47 x.data.toList := by rw [← hm]; rfl
    have hn1 : n.data.toList = cut2 47 x.data.toList := by rw [← hn]; rfl
    have hr := range_type hb hx
    rw [type_as, ← hm1, ← hn1, hK] at hr
    have H := box (And.intro hx (And.intro hK hb))
    have m1 : Box (x.size ≤ maxLen) := box (by unfold maxLen; omega)
    have m2 : Box (m.size ≤ maxLen) := box (by unfold maxLen; omega)
    have m3 : Box (n.size ≤ maxLen) := box (by unfold maxLen; omega)
    rcases h1 : tokL m.data.toList with _ | _
    · rw [if_pos (.inl h1)] at hr
      exact mRange_1 s x m n K _ w hs H m1 m2 m3 HV (box h1) (box hr)
    · rcases h2 : tokL n.data.toList with _ | _
      · rw [if_pos (.inr h2)] at hr
        exact mRange_2 s x m n K _ w hs H m1 m2 m3 HV (box h1) (box h2) (box hr)
      · rw [if_neg (by rw [h1, h2]; simp)] at hr
        rcases q1 : (m.toList == [42]) with _ | _
        · rw [if_neg (fun h => by have := (star_is q1).1 h.1; cases this)] at hr
          exact mRange_4 s x m n K _ w hs H m1 m2 m3 HV (box h1) (box h2) _ _ q1 rfl (.inl rfl) (by omega) (by omega) _ _ (box rfl) (box rfl) (box hr)
        · rcases q2 : (n.toList == [42]) with _ | _
          · rw [if_pos ⟨(star_is q1).2 rfl, fun h => by have := (star_is q2).1 h; cases this⟩] at hr
            exact mRange_3 s x m n K _ w hs H m1 m2 m3 HV (box h1) (box h2) q1 q2 (box hr)
          · rw [if_neg (fun h => h.2 ((star_is q2).2 rfl))] at hr
            exact mRange_4 s x m n K _ w hs H m1 m2 m3 HV (box h1) (box h2) _ _ q1 q2 (.inr rfl) (by omega) (by omega) _ _ (box rfl) (box rfl) (box hr)
theorem mRange_is {s : ByteArray} {a b : ByteArray} {L : List F} {q : Bool} {w : World} (hs : s.size ≤ 65000) (h : Box (ofM (rangeL s.data.toList) = (a, b, L) ∧ (rangeL s.data.toList).isSome = q)) :
    Calls Tryd.prog 81 #[.string s] w fun e w' => ∃ p cap, e = .returned (.tuple #[.agg #[.string a, .string b, .slice p L.length cap], .bool q]) ∧ OwnP w' w.heap.size (.slice p L.length cap) L ∧ Below w.heap.size w w' :=
  (mRange_any s w hs).mono fun e w' ⟨v, h1, h2, h3⟩ => by
    rw [h.out.1] at h1 h2
    rw [h.out.2] at h1
    obtain ⟨p, cap, rfl, _, _⟩ := h2.fs
    exact ⟨p, cap, h1, h2, h3⟩
end
section
open Go.RowKit
theorem mLetter_any (b : Int) (w : World) (h0 : 0 ≤ b) (h1 : b ≤ 255) :
    Calls Tryd.prog 95 #[.int .u8 b] w fun e w' => e = .returned (.bool (lettI b)) ∧ w = w' := by
  go_enter Tryd.func95, Tryd.ntmps95
  go_wp2
  all_goals (go_ret; exact ⟨ret_bool (by rw [Bool.eq_iff_iff]; simp [lettI]; omega), rfl⟩)
theorem mLetterC (c : UInt8) (w : World) :
    Calls Tryd.prog 95 #[.int .u8 (c.toNat : Int)] w fun e w' => e = .returned (.bool (chOk true c)) ∧ w = w' :=
  (mLetter_any _ w (c_bd c).1 (c_bd c).2).mono fun e w' ⟨h1, h2⟩ => ⟨by rw [h1]; unfold chOk; rw [Bool.not_true, Bool.false_and, Bool.or_false], h2⟩
theorem mLetter_is {c : UInt8} {q : Bool} {w : World} (h : Box (lettI (c.toNat : Int) = q)) :
    Calls Tryd.prog 95 #[.int .u8 (c.toNat : Int)] w fun e w' => e = .returned (.bool q) ∧ w = w' :=
  (mLetter_any _ w (c_bd c).1 (c_bd c).2).mono fun e w' ⟨h1, h2⟩ => ⟨by rw [h1, h.out], h2⟩
theorem mLetDigC (c : UInt8) (w : World) :
    Calls Tryd.prog 96 #[.int .u8 (c.toNat : Int)] w fun e w' => e = .returned (.bool (chOk false c)) ∧ w = w' := by
  have hb := c_bd c
  have HD : Box (∀ b : Int, digitI b = decide (48 ≤ b ∧ b ≤ 57)) := box (fun _ => rfl)
  cases hl : lettI (c.toNat : Int) with
  | true =>
    have HL := box hl
    have HV : Box (chOk false c = true) := box (by unfold chOk; rw [hl]; rfl)
    clear hl
    go_enter Tryd.func96, Tryd.ntmps96
    go_wp2_with fail
    refine (mLetter_is HL).mono ?_; rintro e w1 ⟨rfl, rfl⟩
    go_wp2
    go_ret
    exact ⟨ret_bool HV.out.symm, rfl⟩
  | false =>
    have HL := box hl
    have HV : Box (chOk false c = digitI (c.toNat : Int)) := box (by unfold chOk; rw [hl]; rfl)
    clear hl
    go_enter Tryd.func96, Tryd.ntmps96
    go_wp2_with fail
    refine (mLetter_is HL).mono ?_; rintro e w1 ⟨rfl, rfl⟩
    go_wp2
    all_goals (go_ret; exact ⟨ret_bool (by rw [HV.out, HD.out, Bool.eq_iff_iff]; simp; omega), rfl⟩)
theorem mIsSub_true (s : ByteArray) (w : World) (hs : s.size ≤ 65000) :
    Calls Tryd.prog 94 #[.string s, .func (.func 95) #[] #[]] w fun e w' => e = .returned (.bool (subOk true s.data.toList)) ∧ w = w' := by
  have hz : s.data.toList.length = s.size := by simp
  have HE : Box (s.toList = s.data.toList) := box (toList_data s)
  by_cases h0 : s.size = 0
  · have hse : (s.toList.isEmpty) = true := by rw [HE.out]; cases hl : s.data.toList with
      | nil => rfl
      | cons a b => rw [hl] at hz; simp at hz; omega
    have hse2 : s.toList = [] := by rw [List.isEmpty_iff] at hse; exact hse
    have HV : Box (subOk true s.data.toList = false) := box (sub_size (.inl (by omega)))
    clear hz
    go_enter Tryd.func94, Tryd.ntmps94
    go_wp2
    go_ret
    exact ⟨ret_bool HV.out.symm, rfl⟩
  · have hse : (s.toList.isEmpty) = false := by rw [HE.out]; cases hl : s.data.toList with
      | nil => rw [hl] at hz; simp at hz; omega
      | cons a b => rfl
    have hse2 : ¬ s.toList = [] := by rw [List.isEmpty_eq_false_iff] at hse; exact hse
    by_cases h8 : 8 < s.size
    · have HV : Box (subOk true s.data.toList = false) := box (sub_size (.inr (by omega)))
      have h8i : (8 : Int) < (s.size : Int) := by omega
      clear hz
      go_enter Tryd.func94, Tryd.ntmps94
      go_wp2
      go_ret
      exact ⟨ret_bool HV.out.symm, rfl⟩
    · have HV : Box (subOk true s.data.toList = s.data.toList.all (chOk true)) := box (sub_chars (by omega) (by omega))
      have h8i : ¬ (8 : Int) < (s.size : Int) := by omega
      clear hz
      go_enter Tryd.func94, Tryd.ntmps94
      go_wp2
      go_loop [5, 15] (fun _ m => TagI s true m) (fun _ m => s.size - (intOf m).toNat)
      case atStart => exact ⟨0, rfl, Nat.zero_le _, rfl⟩
      case round =>
        obtain ⟨m, rfl, hm, hc⟩ := hrel
        have HM := box hc
        clear hc
        by_cases hml : m < s.size
        · have hmi : (m : Int) < (s.size : Int) := by omega
          obtain ⟨c, hcq⟩ : ∃ c, s[m] = c := ⟨_, rfl⟩
          cases hk : chOk true c with
          | true =>
            have HN := box (allC_more HM.out hml (by rw [hcq, hk]))
            have HK := box hk
            clear hk
            go_wp2_with fail
            refine (mLetterC _ _).mono ?_; rintro e w1 ⟨rfl, rfl⟩
            rw [HK.out]
            go_wp2
            go_round
            case rel => exact ⟨m + 1, by go_num, hml, HN.out⟩
            case measure => simp [intOf]; omega
          | false =>
            have HN : Box (subOk true s.data.toList = false) := box (by rw [HV.out]; exact allC_not hml (by rw [hcq, hk]))
            have HK := box hk
            clear hk
            go_wp2_with fail
            refine (mLetterC _ _).mono ?_; rintro e w1 ⟨rfl, rfl⟩
            rw [HK.out]
            go_wp2
            go_ret
            exact ⟨ret_bool HN.out.symm, rfl⟩
        · have hmi : ¬ (m : Int) < (s.size : Int) := by omega
          have HN : Box (subOk true s.data.toList = true) := box (by
            have h := HM.out
            rw [List.take_of_length_le (by simp; omega)] at h
            rw [HV.out, h])
          go_wp2
          go_ret
          exact ⟨ret_bool HN.out.symm, rfl⟩
theorem mIsSub_false (s : ByteArray) (w : World) (hs : s.size ≤ 65000) :
    Calls Tryd.prog 94 #[.string s, .func (.func 96) #[] #[]] w fun e w' => e = .returned (.bool (subOk false s.data.toList)) ∧ w = w' := by
  have hz : s.data.toList.length = s.size := by simp
  have HE : Box (s.toList = s.data.toList) := box (toList_data s)
  by_cases h0 : s.size = 0
  · have hse : (s.toList.isEmpty) = true := by rw [HE.out]; cases hl : s.data.toList with
      | nil => rfl
      | cons a b => rw [hl] at hz; simp at hz; omega
    have hse2 : s.toList = [] := by rw [List.isEmpty_iff] at hse; exact hse
    have HV : Box (subOk false s.data.toList = false) := box (sub_size (.inl (by omega)))
    clear hz
    go_enter Tryd.func94, Tryd.ntmps94
    go_wp2
    go_ret
    exact ⟨ret_bool HV.out.symm, rfl⟩
  · have hse : (s.toList.isEmpty) = false := by rw [HE.out]; cases hl : s.data.toList with
      | nil => rw [hl] at hz; simp at hz; omega
      | cons a b => rfl
    have hse2 : ¬ s.toList = [] := by rw [List.isEmpty_eq_false_iff] at hse; exact hse
    by_cases h8 : 8 < s.size
    · have HV : Box (subOk false s.data.toList = false) := box (sub_size (.inr (by omega)))
      have h8i : (8 : Int) < (s.size : Int) := by omega
      clear hz
      go_enter Tryd.func94, Tryd.ntmps94
      go_wp2
      go_ret
      exact ⟨ret_bool HV.out.symm, rfl⟩
    · have HV : Box (subOk false s.data.toList = s.data.toList.all (chOk false)) := box (sub_chars (by omega) (by omega))
      have h8i : ¬ (8 : Int) < (s.size : Int) := by omega
      clear hz
      go_enter Tryd.func94, Tryd.ntmps94
      go_wp2
      go_loop [5, 15] (fun _ m => TagI s false m) (fun _ m => s.size - (intOf m).toNat)
      case atStart => exact ⟨0, rfl, Nat.zero_le _, rfl⟩
      case round =>
        obtain ⟨m, rfl, hm, hc⟩ := hrel
        have HM := box hc
        clear hc
        by_cases hml : m < s.size
        · have hmi : (m : Int) < (s.size : Int) := by omega
          obtain ⟨c, hcq⟩ : ∃ c, s[m] = c := ⟨_, rfl⟩
          cases hk : chOk false c with
          | true =>
            have HN := box (allC_more HM.out hml (by rw [hcq, hk]))
            have HK := box hk
            clear hk
            go_wp2_with fail
            refine (mLetDigC _ _).mono ?_; rintro e w1 ⟨rfl, rfl⟩
            rw [HK.out]
            go_wp2
            go_round
            case rel => exact ⟨m + 1, by go_num, hml, HN.out⟩
            case measure => simp [intOf]; omega
          | false =>
            have HN : Box (subOk false s.data.toList = false) := box (by rw [HV.out]; exact allC_not hml (by rw [hcq, hk]))
            have HK := box hk
            clear hk
            go_wp2_with fail
            refine (mLetDigC _ _).mono ?_; rintro e w1 ⟨rfl, rfl⟩
            rw [HK.out]
            go_wp2
            go_ret
            exact ⟨ret_bool HN.out.symm, rfl⟩
        · have hmi : ¬ (m : Int) < (s.size : Int) := by omega
          have HN : Box (subOk false s.data.toList = true) := box (by
            have h := HM.out
            rw [List.take_of_length_le (by simp; omega)] at h
            rw [HV.out, h])
          go_wp2
          go_ret
          exact ⟨ret_bool HN.out.symm, rfl⟩
theorem mIsSub1_is {s : ByteArray} {q : Bool} {w : World} (hs : s.size ≤ 65000) (h : Box (subOk true s.data.toList = q)) :
    Calls Tryd.prog 94 #[.string s, .func (.func 95) #[] #[]] w fun e w' => e = .returned (.bool q) ∧ w = w' :=
  (mIsSub_true s w hs).mono fun e w' ⟨h1, h2⟩ => ⟨by rw [h1, h.out], h2⟩
theorem mIsSub0_is {s : ByteArray} {q : Bool} {w : World} (hs : s.size ≤ 65000) (h : Box (subOk false s.data.toList = q)) :
    Calls Tryd.prog 94 #[.string s, .func (.func 96) #[] #[]] w fun e w' => e = .returned (.bool q) ∧ w = w' :=
  (mIsSub_false s w hs).mono fun e w' ⟨h1, h2⟩ => ⟨by rw [h1, h.out], h2⟩
/-- what is left to be judged: the pieces of t, if there is a piece at all -/
def moreT (more : Bool) (t : List UInt8) : Bool := !more || (subL t).all (subOk false)
theorem cut_sub (l : List UInt8) : subL l = cut1 45 l :: (if cutB 45 l = true then subL (cut2 45 l) else []) := by
  by_cases h : cutB 45 l = true
  · rw [if_pos h]
    conv => lhs; rw [cut_join h]
    exact sub_at (cut1_not 45 l)
  · rw [if_neg h]
    have h2 : cutB 45 l = false := by cases e : cutB 45 l with
      | true => exact absurd e h
      | false => rfl
    have hn : (45 : UInt8) ∉ l := by simpa [cutB] using h2
    have e : Lib.indexByte l 45 = -1 := by
      by_cases q : Lib.indexByte l 45 = -1
      · exact q
      · exfalso
        obtain ⟨k, hk⟩ : ∃ k : Nat, Lib.indexByte l 45 = k := ⟨(Lib.indexByte l 45).toNat, by have := Lib.indexByte_ge l 45; omega⟩
        have := (cut_at hk).2.2.2
        rw [h2] at this; cases this
    rw [(cut_no e).1, sub_no hn]
theorem tag_cut (l : List UInt8) : tagL l = (subOk true (cut1 45 l) && moreT (cutB 45 l) (cut2 45 l)) := by
  unfold tagL moreT
  rw [cut_sub l]
  show (subOk true (cut1 45 l) && _) = _
  congr 1
  cases cutB 45 l <;> rfl
theorem more_cut (l : List UInt8) : moreT true l = (subOk false (cut1 45 l) && moreT (cutB 45 l) (cut2 45 l)) := by
  unfold moreT
  rw [Bool.not_true, Bool.false_or, cut_sub l, List.all_cons]
  congr 1
  cases cutB 45 l <;> rfl
theorem cut_small45 (l : List UInt8) : (cut1 45 l).length ≤ l.length ∧ (cut2 45 l).length ≤ l.length ∧ (cutB 45 l = true → (cut2 45 l).length < l.length) := by
  refine ⟨(List.takeWhile_prefix _).length_le, ?_, ?_⟩
  · unfold cut2; have := (List.dropWhile_suffix (l := l) (fun x => x != (45 : UInt8))).length_le; simp; omega
  · intro h; have := congrArg List.length (cut_join h); rw [List.length_append, List.length_cons] at this; omega
/-- the loop over the pieces: rest and more -/
def MtR (m : Bool) (n : Nat) (W : World) (t b : Value) (wr : World) : Prop :=
  ∃ (r : ByteArray) (q : Bool), t = .string r ∧ b = .bool q ∧ r.size ≤ n ∧ moreT q r.data.toList = m ∧ Below W.heap.size W wr
def boolV : Value → Bool
  | .bool b => b
  | _ => false
set_option maxHeartbeats 1000000 in
theorem mTag_any (s : ByteArray) (w : World) (hs : s.size ≤ 65000) :
    Calls Tryd.prog 83 #[.string s] w fun e w' => e = .returned (.bool (tagL s.data.toList)) ∧ Below w.heap.size w w' := by
  obtain ⟨v, hv⟩ : ∃ v, tagL s.data.toList = v := ⟨_, rfl⟩
  have hT := tag_cut s.data.toList
  have hC := cut_small45 s.data.toList
  have hz : s.data.toList.length = s.size := by simp
  have hsm : s.size ≤ maxLen := by unfold maxLen; omega
  rw [hv] at hT
  have HCV : Box (cutV 45 s.data.toList = .tuple #[.string (bs (cut1 45 s.data.toList)), .string (bs (cut2 45 s.data.toList)), .bool (cutB 45 s.data.toList)]) := box rfl
  obtain ⟨x, hx⟩ : ∃ x, cut1 45 s.data.toList = x := ⟨_, rfl⟩
  obtain ⟨y, hy⟩ : ∃ y, cut2 45 s.data.toList = y := ⟨_, rfl⟩
  obtain ⟨b, hb⟩ : ∃ b, cutB 45 s.data.toList = b := ⟨_, rfl⟩
  rw [hx, hy, hb] at HCV
  rw [hx, hy, hb] at hT
  rw [hx, hy] at hC
  have hxz : (bs x).size ≤ 65000 := by rw [bs_size]; omega
  have hyz : (bs y).size ≤ 65000 := by rw [bs_size]; omega
  have HV : Box (∀ q, subOk true x = q → v = (q && moreT b y)) := box (fun q hq => by rw [← hq, hT])
  have HVV := box hv
  rw [hv]
  clear hx hy hb hv hT hC hz
  go_enter Tryd.func83, Tryd.ntmps83
  go_wp2_with fail
  refine (Cut_any s 45 _ hsm).mono ?_; rintro e w1 ⟨rfl, hb1⟩
  rw [HCV.out]
  have B1 := box hb1
  clear hb1
  cases hq : subOk true x with
  | false =>
    have HQ : Box (subOk true (bs x).data.toList = false) := box hq
    have HR : Box (v = false) := box (by rw [HV.out _ hq]; rfl)
    clear hq
    go_wp2_with fail
    refine (mIsSub1_is hxz HQ).mono ?_; rintro e w2 ⟨rfl, rfl⟩
    go_wp2
    go_ret
    exact ⟨ret_bool HR.out.symm, B1.out⟩
  | true =>
    have HQ : Box (subOk true (bs x).data.toList = true) := box hq
    have HR : Box (moreT b (bs y).data.toList = v) := box (by rw [HV.out _ hq]; rfl)
    clear hq
    go_wp2_with fail
    refine (mIsSub1_is hxz HQ).mono ?_; rintro e w2 ⟨rfl, rfl⟩
    go_wp2
    go_loopw [4, 5, 6] (fun t q _ wr => MtR v 65000 w1 t q wr) (fun t q _ _ => (strLen t) + (if boolV q = true then 1 else 0))
    case atStart => exact ⟨bs y, b, rfl, rfl, hyz, HR.out, Below.refl _ _⟩
    case round =>
      obtain ⟨r, q, rfl, rfl, hr, hm, hbel⟩ := hrel
      have BL := box hbel
      have HM := box hm
      clear hm hbel
      cases q with
      | false =>
        have HF : Box (v = true) := box (by rw [← HM.out]; rfl)
        go_wp2
        go_ret
        exact ⟨ret_bool HF.out.symm, B1.out.trans (BL.out.mono B1.out.size)⟩
      | true =>
        have hT := more_cut r.data.toList
        rw [HM.out] at hT
        have hC := cut_small45 r.data.toList
        have hz : r.data.toList.length = r.size := by simp
        have hrm : r.size ≤ maxLen := by unfold maxLen; omega
        have HCV : Box (cutV 45 r.data.toList = .tuple #[.string (bs (cut1 45 r.data.toList)), .string (bs (cut2 45 r.data.toList)), .bool (cutB 45 r.data.toList)]) := box rfl
        obtain ⟨x', hx⟩ : ∃ x', cut1 45 r.data.toList = x' := ⟨_, rfl⟩
        obtain ⟨y', hy⟩ : ∃ y', cut2 45 r.data.toList = y' := ⟨_, rfl⟩
        obtain ⟨b', hb⟩ : ∃ b', cutB 45 r.data.toList = b' := ⟨_, rfl⟩
        rw [hx, hy, hb] at HCV
        rw [hx, hy, hb] at hT
        rw [hx, hy, hb] at hC
        have hxz' : (bs x').size ≤ 65000 := by rw [bs_size]; omega
        have hyz' : (bs y').size ≤ 65000 := by rw [bs_size]; omega
        have HY : Box ((bs y').size + (if b' = true then 1 else 0) < r.size + 1) := box (by
          rw [bs_size]
          cases b' with
          | true => have := hC.2.2 rfl; simp; omega
          | false => simp; omega)
        have HV2 : Box (∀ q, subOk false x' = q → v = (q && moreT b' y')) := box (fun q hq => by rw [← hq, hT])
        clear hx hy hb hT hC hz
        go_wp2_with fail
        refine (Cut_any r 45 _ hrm).mono ?_; rintro e w3 ⟨rfl, hb3⟩
        rw [HCV.out]
        have B3 := box (BL.out.trans (hb3.mono BL.out.size))
        clear hb3
        cases hq : subOk false x' with
        | false =>
          have HQ : Box (subOk false (bs x').data.toList = false) := box hq
          have HR : Box (v = false) := box (by rw [HV2.out _ hq]; rfl)
          clear hq
          go_wp2_with fail
          refine (mIsSub0_is hxz' HQ).mono ?_; rintro e w2 ⟨rfl, rfl⟩
          go_wp2
          go_ret
          exact ⟨ret_bool HR.out.symm, B1.out.trans (B3.out.mono B1.out.size)⟩
        | true =>
          have HQ : Box (subOk false (bs x').data.toList = true) := box hq
          have HR : Box (moreT b' (bs y').data.toList = v) := box (by rw [HV2.out _ hq]; rfl)
          clear hq
          go_wp2_with fail
          refine (mIsSub0_is hxz' HQ).mono ?_; rintro e w2 ⟨rfl, rfl⟩
          go_wp2
          go_roundw
          case rel => exact ⟨bs y', b', rfl, rfl, hyz', HR.out, B3.out⟩
          case measure => exact HY.out
theorem mRangeT_any (s : ByteArray) (w : World) (hs : s.size ≤ 65000) :
    Calls Tryd.prog 61 #[.string s] w fun e w' => e = .returned (.bool (rangeT s.data.toList)) ∧ Below w.heap.size w w' := by
  have hst := star_list (s := s)
  by_cases h : s.data.toList = [42]
  · rw [decide_eq_true h] at hst
    have HV : Box (rangeT s.data.toList = true) := box (by unfold rangeT; rw [decide_eq_true h, Bool.true_or])
    clear h
    go_enter Tryd.func61, Tryd.ntmps61
    go_wp2
    go_ret
    exact ⟨ret_bool HV.out.symm, Below.refl _ _⟩
  · rw [decide_eq_false h] at hst
    have HV : Box (rangeT s.data.toList = tagL s.data.toList) := box (by unfold rangeT; rw [decide_eq_false h, Bool.false_or])
    clear h
    go_enter Tryd.func61, Tryd.ntmps61
    go_wp2_with fail
    refine (mTag_any s _ hs).mono ?_; rintro e w1 ⟨rfl, hb1⟩
    go_wp2
    go_ret
    exact ⟨ret_bool HV.out.symm, hb1⟩
end
section
def chkL (n : Nat) : Bool := ((lowB (UInt8.ofNat n) == 45) == (UInt8.ofNat n == 45)) && ((lowB (UInt8.ofNat n) == 42) == (UInt8.ofNat n == 42)) && (lettI (lowB (UInt8.ofNat n)).toNat == lettI (n : Int)) && (digitI (lowB (UInt8.ofNat n)).toNat == digitI (n : Int))
theorem chkL_all : ∀ x : Fin 256, chkL x.1 = true := by decide +kernel
theorem low_more (c : UInt8) : (lowB c = 45 ↔ c = 45) ∧ (lowB c = 42 ↔ c = 42) ∧ lettI (lowB c).toNat = lettI c.toNat ∧ digitI (lowB c).toNat = digitI c.toNat := by
  have k := chkL_all ⟨c.toNat, c.toNat_lt⟩
  unfold chkL at k
  simp only [UInt8.ofNat_toNat, Bool.and_eq_true, beq_iff_eq] at k
  obtain ⟨⟨⟨k1, k2⟩, k3⟩, k4⟩ := k
  exact ⟨by rw [← beq_iff_eq, k1, beq_iff_eq], by rw [← beq_iff_eq, k2, beq_iff_eq], k3, k4⟩
theorem lowL_cons (c : UInt8) (r : List UInt8) : lowL (c :: r) = lowB c :: lowL r := rfl
theorem sub_low : ∀ l : List UInt8, subL (lowL l) = (subL l).map lowL
  | [] => rfl
  | c :: r => by
    have ih := sub_low r
    obtain ⟨x, xs, e⟩ := subL_cons r
    rw [e, List.map_cons] at ih
    rw [lowL_cons]
    by_cases hc : c = 45
    · have h2 := (low_more c).1.2 hc
      rw [h2, hc, subL_hyp, subL_hyp, ih, e]; rfl
    · have h2 : ¬ lowB c = 45 := fun q => hc ((low_more c).1.1 q)
      rw [subL_chr h2 ih, subL_chr hc e]; rfl
theorem lowL_len2 (l : List UInt8) : (lowL l).length = l.length := by simp [lowL]
theorem subOk_low (f : Bool) (x : List UInt8) : subOk f (lowL x) = subOk f x := by
  unfold subOk
  rw [lowL_len2, lowL_map, List.all_map]
  congr 1
  apply List.all_congr rfl
  intro c
  have h := low_more c
  show (lettI (lowB c).toNat || (!f && digitI (lowB c).toNat)) = _
  rw [h.2.2.1, h.2.2.2]
theorem subsOk_low : ∀ L : List (List UInt8), subsOk (L.map lowL) = subsOk L
  | [] => rfl
  | x :: xs => by
    show (subOk true (lowL x) && (xs.map lowL).all (subOk false)) = (subOk true x && xs.all (subOk false))
    rw [subOk_low, List.all_map]
    congr 1
    apply List.all_congr rfl
    intro y
    exact subOk_low false y
theorem tag_low (l : List UInt8) : tagL (lowL l) = tagL l := by unfold tagL; rw [sub_low, subsOk_low]
theorem star_low (l : List UInt8) : lowL l = [42] ↔ l = [42] := by
  match l with
  | [] => simp [lowL]
  | [c] => rw [lowL_cons]; simp [lowL, (low_more c).2.1]
  | _ :: _ :: _ => simp [lowL]
theorem range_low (l : List UInt8) : rangeT (lowL l) = rangeT l := by
  unfold rangeT
  rw [tag_low, decide_eq_decide.2 (star_low l)]
end
section
open Go.RowKit
theorem mLow12_is {s x : ByteArray} {w : World} (hs : s.size ≤ 4294967296) (h : Box (bs (lowL s.data.toList) = x)) :
    Calls Tryd.prog 78 #[.string s] w fun e w' => e = .returned (.string x) ∧ Below w.heap.size w w' :=
  (Lower_any s w hs).mono fun e w' ⟨h1, h2⟩ => ⟨by rw [h1, ← h.out]; rfl, h2⟩
theorem mCan_any (k : Int) (s : ByteArray) (w : World) (hk : InI64 k) (hs : s.size ≤ 65536) :
    Calls Tryd.prog 60 #[.int .i64 k, .string s] w fun e w' => e = .returned (.string (bs (canL k s.data.toList))) ∧ Below w.heap.size w w' := by
  have hs4 : s.size ≤ 4294967296 := by omega
  obtain ⟨l, hl⟩ : ∃ l, lowL s.data.toList = l := ⟨_, rfl⟩
  have HX : Box (bs (lowL s.data.toList) = bs l) := box (by rw [hl])
  by_cases h4 : k = 4
  · subst h4
    by_cases h1 : l = xgzL
    · have HV : Box (canL 4 s.data.toList = gzL) := box (by unfold canL; rw [hl, if_pos ⟨rfl, h1⟩])
      subst h1
      clear hl
      go_enter Tryd.func60, Tryd.ntmps60
      go_wp2_with fail
      refine (mLow12_is hs4 HX).mono ?_; rintro e w1 ⟨rfl, hb1⟩; rw [show bs xgzL = ⟨#[120, 45, 103, 122, 105, 112]⟩ from rfl]
      go_wp2
      go_ret
      exact ⟨by rw [HV.out]; rfl, hb1⟩
    · have e1 : ((bs l).toList == [120, 45, 103, 122, 105, 112]) = false := by rw [bs_list]; exact beq_list (decide_eq_false h1)
      by_cases h2 : l = xcoL
      · have HV : Box (canL 4 s.data.toList = coL) := box (by unfold canL; rw [hl, if_neg (fun q => h1 q.2), if_pos ⟨rfl, h2⟩])
        subst h2
        clear hl e1
        go_enter Tryd.func60, Tryd.ntmps60
        go_wp2_with fail
        refine (mLow12_is hs4 HX).mono ?_; rintro e w1 ⟨rfl, hb1⟩; rw [show bs xcoL = ⟨#[120, 45, 99, 111, 109, 112, 114, 101, 115, 115]⟩ from rfl]
        go_wp2
        go_ret
        exact ⟨by rw [HV.out]; rfl, hb1⟩
      · have e2 : ((bs l).toList == [120, 45, 99, 111, 109, 112, 114, 101, 115, 115]) = false := by rw [bs_list]; exact beq_list (decide_eq_false h2)
        have HV : Box (canL 4 s.data.toList = l) := box (by unfold canL; rw [hl, if_neg (fun q => h1 q.2), if_neg (fun q => h2 q.2)])
        clear hl h1 h2
        go_enter Tryd.func60, Tryd.ntmps60
        go_wp2_with fail
        refine (mLow12_is hs4 HX).mono ?_; rintro e w1 ⟨rfl, hb1⟩
        go_wp2
        go_ret
        exact ⟨by rw [HV.out]; rfl, hb1⟩
  · have e4 : (k != 4) = true := by rw [bne_iff_ne]; exact h4
    have HV : Box (canL k s.data.toList = l) := box (by unfold canL; rw [hl, if_neg (fun q => h4 q.1), if_neg (fun q => h4 q.1)])
    clear hl h4
    go_enter Tryd.func60, Tryd.ntmps60
    go_wp2_with fail
    refine (mLow12_is hs4 HX).mono ?_; rintro e w1 ⟨rfl, hb1⟩
    go_wp2
    go_ret
    exact ⟨by rw [HV.out]; rfl, hb1⟩
theorem mCan0_is {k : Int} {s x : ByteArray} {w : World} (hk : InI64 k) (hs : s.size ≤ 65536) (h : Box (bs (canL k s.data.toList) = x)) :
    Calls Tryd.prog 60 #[.int .i64 k, .string s] w fun e w' => e = .returned (.string x) ∧ Below w.heap.size w w' :=
  (mCan_any k s w hk hs).mono fun e w' ⟨h1, h2⟩ => ⟨by rw [h1, h.out], h2⟩
end
end Go.Proofs.YtnpllgjkbpnimaaDoor.Asc
