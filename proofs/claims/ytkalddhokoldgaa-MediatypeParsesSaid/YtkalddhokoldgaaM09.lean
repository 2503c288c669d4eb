/- Merged texts: MedMine MedLen MedLaws MedOpen. -/
import Derived.Test.YtkalddhokoldgaaM04
import Derived.Test.YtkalddhokoldgaaM05
import Derived.Test.YtkalddhokoldgaaM06
import Derived.Test.YtkalddhokoldgaaM07
import Derived.Test.YtkalddhokoldgaaM08
set_option linter.unusedVariables false
set_option linter.unusedSimpArgs false
set_option maxRecDepth 100000
namespace Go.Proofs.Ytkalddhokoldgaa.Asc
section
open Go.RowKit
/-- Parse of param with its results as letters -/
theorem mParO_is {s x : ByteArray} {K : List F} {b : Bool} {w : World} (hs : s.size ≤ 65000) (h : Box (parA s.data.toList = x ∧ parB s.data.toList = K ∧ parO s.data.toList = b)) :
    Calls Try.prog 19 #[.string s] w fun e w' => ∃ a cap, e = .returned (.tuple #[.string x, .slice a K.length cap, .bool b]) ∧ OwnP w' w.heap.size (.slice a K.length cap) K ∧ Below w.heap.size w w' :=
  (mPar_any s w hs).mono fun e w' ⟨v, h1, h2, h3⟩ => by
    obtain ⟨rfl, rfl, rfl⟩ := h.out
    obtain ⟨a, cap, rfl, hS, hc⟩ := h2.fs
    exact ⟨a, cap, h1, h2, h3⟩
theorem mFmt10_any (a b : ByteArray) (p : Option Addr) (cap : Nat) (L : List F) (w : World) (ha : a.size ≤ 30000) (hb : b.size ≤ 30000) (hl : L.length ≤ 65536) (hz : Box (∀ i (hi : i < L.length), L[i].1.size ≤ 65536 ∧ L[i].2.size ≤ 65536)) (hF : Box (Fs w p L)) :
    Calls Try.prog 16 #[.agg #[.string a, .string b, .slice p L.length cap]] w fun e w' => e = .returned (.string (fmtMB (a, b, L))) ∧ Below w.heap.size w w' := by
  have s1 : (a ++ (⟨#[47]⟩ : ByteArray)).size = a.size + 1 := by rw [ByteArray.size_append]; rfl
  have r1 : ∀ w, (Op.stringOp .add a ⟨#[47]⟩).run Try.prog w = .ok (.string (a ++ ⟨#[47]⟩)) w := fun w => run_string_add_sum w _ _ (by show a.size + 1 ≤ 9223372036854775807; omega)
  have r2 : ∀ w, (Op.stringOp .add (a ++ (⟨#[47]⟩ : ByteArray)) b).run Try.prog w = .ok (.string (a ++ ⟨#[47]⟩ ++ b)) w := fun w => run_string_add_sum w _ _ (by rw [s1]; show a.size + 1 + b.size ≤ 9223372036854775807; omega)
  have hv : (a ++ (⟨#[47]⟩ : ByteArray) ++ b).size ≤ 65536 := by rw [ByteArray.size_append, s1]; omega
  clear s1
  go_enter Try.func16, Try.ntmps16
  go_wp2_with fail
  refine (mFmt9_any (a ++ (⟨#[47]⟩ : ByteArray) ++ b) p cap L _ hv hl hz (box (hF.out.below (below_new w _)))).mono ?_; rintro e w1 ⟨rfl, hb1⟩
  have B1 := box ((below_new w _).trans (hb1.mono (below_new w _).size))
  clear hb1
  go_wp2
  go_ret
  exact ⟨rfl, B1.out⟩
/-- the ways that end before the parameters are looked at -/
theorem mMatch_early (a b c d : ByteArray) (p q : Option Addr) (cp cq : Nat) (K L : List F) (w : World) (q1 q2 q3 q4 : Bool) (h1 : (a.toList == [42]) = q1) (h2 : (b.toList == [42]) = q2) (h3 : (a.toList == c.toList) = q3) (h4 : (b.toList == d.toList) = q4)
    (hq : (q1 = true ∧ q2 = true) ∨ q3 = false ∨ q2 = true ∨ q4 = false) :
    Calls Try.prog 14 #[.agg #[.string a, .string b, .slice p K.length cp], .agg #[.string c, .string d, .slice q L.length cq]] w fun e w' => e = .returned (.int .i64 (matchI (a, b, K) (c, d, L))) ∧ Below w.heap.size w w' := by
  have B2 : Box (Below w.heap.size w ((w.alloc (.cells #[.string a, .string b, .slice p K.length cp] 24)).alloc (.cells #[.string c, .string d, .slice q L.length cq] 24))) := box ((below_new w _).alloc (below_new w _).size _)
  obtain ⟨x, hx⟩ : ∃ x, matchI (a, b, K) (c, d, L) = x := ⟨_, rfl⟩
  have HX := box hx
  unfold matchI at hx
  simp only [h1, h2, h3, h4] at hx
  rw [HX.out]
  clear HX
  have h5 : (a.toList != c.toList) = !q3 := by rw [← h3]; rfl
  cases q1 <;> cases q2 <;> cases q3 <;> cases q4
  all_goals first
    | (exfalso; simp at hq; done)
    | (simp at hx
       subst hx
       clear hq
       go_enter Try.func14, Try.ntmps14
       go_wp2
       go_ret
       exact ⟨rfl, B2.out⟩)
set_option maxHeartbeats 1000000 in
theorem mMatch_late (a b c d : ByteArray) (p q : Option Addr) (cp cq : Nat) (K L : List F) (w : World) (hk : K.length ≤ 65536) (hl : L.length ≤ 65536)
    (hzK : Box (∀ i (hi : i < K.length), K[i].1.size ≤ 65536 ∧ K[i].2.size ≤ 65536)) (hzL : Box (∀ i (hi : i < L.length), L[i].1.size ≤ 65536 ∧ L[i].2.size ≤ 65536)) (hK : Box (Fs w p K)) (hL : Box (Fs w q L))
    (q1 : Bool) (h1 : (a.toList == [42]) = q1) (h2 : (b.toList == [42]) = false) (h3 : (a.toList == c.toList) = true) (h4 : (b.toList == d.toList) = true) :
    Calls Try.prog 14 #[.agg #[.string a, .string b, .slice p K.length cp], .agg #[.string c, .string d, .slice q L.length cq]] w fun e w' => e = .returned (.int .i64 (matchI (a, b, K) (c, d, L))) ∧ Below w.heap.size w w' := by
  have h5 : (a.toList != c.toList) = false := by unfold bne; rw [h3]; rfl
  have b2 : Below w.heap.size w ((w.alloc (.cells #[.string a, .string b, .slice p K.length cp] 24)).alloc (.cells #[.string c, .string d, .slice q L.length cq] 24)) := (below_new w _).alloc (below_new w _).size _
  have B2 := box b2
  have FK := box (hK.out.below b2)
  have FL := box (hL.out.below b2)
  have C0 := box ((C3.new (.string a) (.string b) (.slice p K.length cp) w 24).next (below_new _ (.cells #[.string c, .string d, .slice q L.length cq] 24)))
  clear b2
  have HV : Box (matchI (a, b, K) (c, d, L) = if (K.all fun p => prmIn p L) = true then 2 + (K.length : Int) else -1) := box (by
    unfold matchI; simp [h2, h3, h4])
  rw [HV.out]
  clear HV
  obtain ⟨z, hz⟩ : ∃ z : Bool, (K.all fun p => prmIn p L) = z := ⟨_, rfl⟩
  have HZ : Box (HasIs z K L) := box (by unfold HasIs; rw [inK_prm, hz])
  rw [hz]
  clear hz
  have i4 : IntKind.i64.wrap (2 + (K.length : Int)) = 2 + (K.length : Int) := IntWalk.i64_in _ (by omega)
  rcases q1 with _ | _ <;> rcases z with _ | _
  all_goals
    go_enter Try.func14, Try.ntmps14
    go_wp2_with fail
    refine (hasParams_any c d p q cp cq K L _ _ hk hl hzK hzL FK FL HZ).mono ?_; rintro e w1 ⟨rfl, hb1⟩
    have B3 := box (B2.out.trans (hb1.mono B2.out.size))
    have C1 := box (C0.out.next hb1)
    obtain ⟨⟨d0, d1, d2⟩, _⟩ := C1.out
    clear hb1
    go_wp2
    go_ret
    exact ⟨by simp, B3.out⟩
theorem mMatch10_any (a b c d : ByteArray) (p q : Option Addr) (cp cq : Nat) (K L : List F) (w : World) (hk : K.length ≤ 65536) (hl : L.length ≤ 65536)
    (hzK : Box (∀ i (hi : i < K.length), K[i].1.size ≤ 65536 ∧ K[i].2.size ≤ 65536)) (hzL : Box (∀ i (hi : i < L.length), L[i].1.size ≤ 65536 ∧ L[i].2.size ≤ 65536)) (hK : Box (Fs w p K)) (hL : Box (Fs w q L)) :
    Calls Try.prog 14 #[.agg #[.string a, .string b, .slice p K.length cp], .agg #[.string c, .string d, .slice q L.length cq]] w fun e w' => e = .returned (.int .i64 (matchI (a, b, K) (c, d, L))) ∧ Below w.heap.size w w' := by
  by_cases h : (b.toList == [42]) = false ∧ (a.toList == c.toList) = true ∧ (b.toList == d.toList) = true
  · exact mMatch_late a b c d p q cp cq K L w hk hl hzK hzL hK hL _ rfl h.1 h.2.1 h.2.2
  · refine mMatch_early a b c d p q cp cq K L w _ _ _ _ rfl rfl rfl rfl ?_
    rcases h2 : (b.toList == [42]) with _ | _
    · rcases h3 : (a.toList == c.toList) with _ | _
      · exact .inr (.inl rfl)
      · rcases h4 : (b.toList == d.toList) with _ | _
        · exact .inr (.inr (.inr rfl))
        · exact absurd ⟨h2, h3, h4⟩ h
    · exact .inr (.inr (.inl rfl))
theorem tok_nil : tokL [] = false := rfl
/-- a range without a slash is none, by its empty subtype -/
theorem type_as (v : List UInt8) : typeL v = if tokL (cut1 47 v) = false ∨ tokL (cut2 47 v) = false then none
    else if cut1 47 v = [42] ∧ cut2 47 v ≠ [42] then none else some (bs (lowL (cut1 47 v)), bs (lowL (cut2 47 v))) := by
  unfold typeL
  rcases hb : cutB 47 v with _ | _
  · have : cut2 47 v = [] := by
      rcases idx_cases v 47 with hi | ⟨o, hi, ho⟩
      · exact (cut_no hi).2.1
      · rw [(cut_at hi).2.2.2] at hb; exact absurd hb (by decide)
    rw [this, tok_nil]
    simp
  · rcases h1 : tokL (cut1 47 v) with _ | _ <;> rcases h2 : tokL (cut2 47 v) with _ | _ <;> simp
theorem mRange_0 (s x : ByteArray) (K : List F) (w : World) (hs : s.size ≤ 65000) (H : Box (parA s.data.toList = x ∧ parB s.data.toList = K ∧ parO s.data.toList = false)) (HR : Box (rangeL s.data.toList = none)) :
    Calls Try.prog 9 #[.string s] w fun e w' => medW w w' (rangeL s.data.toList) e := by
  go_enter Try.func9, Try.ntmps9
  go_wp2_with fail
  refine (mParO_is hs H).mono ?_; rintro e w1 ⟨a1, cap1, rfl, hO1, hb1⟩
  have O1 := box hO1
  have C1 := box ((C3.new (.string ⟨#[]⟩) (.string ⟨#[]⟩) (.slice none 0 0) w 24).next hb1)
  have B1 := box ((below_new w _).trans (hb1.mono (below_new w _).size))
  clear hO1 hb1
  obtain ⟨⟨r0, r1, r2⟩, ⟨f0, f1, f2⟩⟩ := C1.out
  go_wp2
  (try simp only [Exit.inBlock, Exit.then])
  refine bodyPost_ret (v := .tuple #[.agg #[.string ⟨#[]⟩, .string ⟨#[]⟩, .slice none 0 0], .bool false]) (by rw [results_cell_tmp rfl]; go_simp) rfl ?_
  exact medW_none HR (below3 B1.out (Nat.le_refl _) _ _ _)
theorem mRange_1 (s x m n : ByteArray) (K : List F) (q : Bool) (w : World) (hs : s.size ≤ 65000) (H : Box (parA s.data.toList = x ∧ parB s.data.toList = K ∧ parO s.data.toList = true)) (HXM : Box (x.size ≤ maxLen)) (HMM : Box (m.size ≤ maxLen)) (HNM : Box (n.size ≤ maxLen)) (HV : Box (cutV 47 x.data.toList = .tuple #[.string m, .string n, .bool q])) (HT1 : Box (tokL m.data.toList = false)) (HR : Box (rangeL s.data.toList = none)) :
    Calls Try.prog 9 #[.string s] w fun e w' => medW w w' (rangeL s.data.toList) e := by
  go_enter Try.func9, Try.ntmps9
  go_wp2_with fail
  refine (mParO_is hs H).mono ?_; rintro e w1 ⟨a1, cap1, rfl, hO1, hb1⟩
  have O1 := box hO1
  have C1 := box ((C3.new (.string ⟨#[]⟩) (.string ⟨#[]⟩) (.slice none 0 0) w 24).next hb1)
  have B1 := box ((below_new w _).trans (hb1.mono (below_new w _).size))
  clear hO1 hb1
  go_wp2_with fail
  refine (Cut_any x 47 _ HXM.out).mono ?_; rintro e w2 ⟨rfl, hb2⟩; rw [HV.out]
  have O2 := box (own_below O1.out hb2)
  have C2 := box (C1.out.next hb2)
  have B2 := box (B1.out.trans (hb2.mono B1.out.size))
  clear hb2 O1 C1 B1
  go_wp2_with fail
  refine (aToken_is HMM.out HT1).mono ?_; rintro e w3 ⟨rfl, rfl⟩
  obtain ⟨⟨r0, r1, r2⟩, ⟨f0, f1, f2⟩⟩ := C2.out
  go_wp2
  (try simp only [Exit.inBlock, Exit.then])
  refine bodyPost_ret (v := .tuple #[.agg #[.string ⟨#[]⟩, .string ⟨#[]⟩, .slice none 0 0], .bool false]) (by rw [results_cell_tmp rfl]; go_simp) rfl ?_
  exact medW_none HR (below3 B2.out (Nat.le_refl _) _ _ _)
theorem mRange_2 (s x m n : ByteArray) (K : List F) (q : Bool) (w : World) (hs : s.size ≤ 65000) (H : Box (parA s.data.toList = x ∧ parB s.data.toList = K ∧ parO s.data.toList = true)) (HXM : Box (x.size ≤ maxLen)) (HMM : Box (m.size ≤ maxLen)) (HNM : Box (n.size ≤ maxLen)) (HV : Box (cutV 47 x.data.toList = .tuple #[.string m, .string n, .bool q])) (HT1 : Box (tokL m.data.toList = true)) (HT2 : Box (tokL n.data.toList = false)) (HR : Box (rangeL s.data.toList = none)) :
    Calls Try.prog 9 #[.string s] w fun e w' => medW w w' (rangeL s.data.toList) e := by
  go_enter Try.func9, Try.ntmps9
  go_wp2_with fail
  refine (mParO_is hs H).mono ?_; rintro e w1 ⟨a1, cap1, rfl, hO1, hb1⟩
  have O1 := box hO1
  have C1 := box ((C3.new (.string ⟨#[]⟩) (.string ⟨#[]⟩) (.slice none 0 0) w 24).next hb1)
  have B1 := box ((below_new w _).trans (hb1.mono (below_new w _).size))
  clear hO1 hb1
  go_wp2_with fail
  refine (Cut_any x 47 _ HXM.out).mono ?_; rintro e w2 ⟨rfl, hb2⟩; rw [HV.out]
  have O2 := box (own_below O1.out hb2)
  have C2 := box (C1.out.next hb2)
  have B2 := box (B1.out.trans (hb2.mono B1.out.size))
  clear hb2 O1 C1 B1
  go_wp2_with fail
  refine (aToken_is HMM.out HT1).mono ?_; rintro e w3 ⟨rfl, rfl⟩
  go_wp2_with fail
  refine (aToken_is HNM.out HT2).mono ?_; rintro e w3 ⟨rfl, rfl⟩
  obtain ⟨⟨r0, r1, r2⟩, ⟨f0, f1, f2⟩⟩ := C2.out
  go_wp2
  (try simp only [Exit.inBlock, Exit.then])
  refine bodyPost_ret (v := .tuple #[.agg #[.string ⟨#[]⟩, .string ⟨#[]⟩, .slice none 0 0], .bool false]) (by rw [results_cell_tmp rfl]; go_simp) rfl ?_
  exact medW_none HR (below3 B2.out (Nat.le_refl _) _ _ _)
theorem mRange_3 (s x m n : ByteArray) (K : List F) (q : Bool) (w : World) (hs : s.size ≤ 65000) (H : Box (parA s.data.toList = x ∧ parB s.data.toList = K ∧ parO s.data.toList = true)) (HXM : Box (x.size ≤ maxLen)) (HMM : Box (m.size ≤ maxLen)) (HNM : Box (n.size ≤ maxLen)) (HV : Box (cutV 47 x.data.toList = .tuple #[.string m, .string n, .bool q])) (HT1 : Box (tokL m.data.toList = true)) (HT2 : Box (tokL n.data.toList = true)) (q1 : (m.toList == [42]) = true) (q2 : (n.toList == [42]) = false) (HR : Box (rangeL s.data.toList = none)) :
    Calls Try.prog 9 #[.string s] w fun e w' => medW w w' (rangeL s.data.toList) e := by
  have q3 : (n.toList != [42]) = true := by unfold bne; rw [q2]; rfl
  go_enter Try.func9, Try.ntmps9
  go_wp2_with fail
  refine (mParO_is hs H).mono ?_; rintro e w1 ⟨a1, cap1, rfl, hO1, hb1⟩
  have O1 := box hO1
  have C1 := box ((C3.new (.string ⟨#[]⟩) (.string ⟨#[]⟩) (.slice none 0 0) w 24).next hb1)
  have B1 := box ((below_new w _).trans (hb1.mono (below_new w _).size))
  clear hO1 hb1
  go_wp2_with fail
  refine (Cut_any x 47 _ HXM.out).mono ?_; rintro e w2 ⟨rfl, hb2⟩; rw [HV.out]
  have O2 := box (own_below O1.out hb2)
  have C2 := box (C1.out.next hb2)
  have B2 := box (B1.out.trans (hb2.mono B1.out.size))
  clear hb2 O1 C1 B1
  go_wp2_with fail
  refine (aToken_is HMM.out HT1).mono ?_; rintro e w3 ⟨rfl, rfl⟩
  go_wp2_with fail
  refine (aToken_is HNM.out HT2).mono ?_; rintro e w3 ⟨rfl, rfl⟩
  obtain ⟨⟨r0, r1, r2⟩, ⟨f0, f1, f2⟩⟩ := C2.out
  go_wp2
  (try simp only [Exit.inBlock, Exit.then])
  refine bodyPost_ret (v := .tuple #[.agg #[.string ⟨#[]⟩, .string ⟨#[]⟩, .slice none 0 0], .bool false]) (by rw [results_cell_tmp rfl]; go_simp) rfl ?_
  exact medW_none HR (below3 B2.out (Nat.le_refl _) _ _ _)
theorem mRange_4 (s x m n : ByteArray) (K : List F) (q : Bool) (w : World) (hs : s.size ≤ 65000) (H : Box (parA s.data.toList = x ∧ parB s.data.toList = K ∧ parO s.data.toList = true)) (HXM : Box (x.size ≤ maxLen)) (HMM : Box (m.size ≤ maxLen)) (HNM : Box (n.size ≤ maxLen)) (HV : Box (cutV 47 x.data.toList = .tuple #[.string m, .string n, .bool q])) (HT1 : Box (tokL m.data.toList = true)) (HT2 : Box (tokL n.data.toList = true)) (b1 b2 : Bool) (q1 : (m.toList == [42]) = b1) (q2 : (n.toList == [42]) = b2) (hb : b1 = false ∨ b2 = true) (hm4 : m.size ≤ 4294967296) (hn4 : n.size ≤ 4294967296)
    (nm sb : ByteArray) (HL1 : Box (bs (lowL m.data.toList) = nm)) (HL2 : Box (bs (lowL n.data.toList) = sb)) (HR : Box (rangeL s.data.toList = some (nm, sb, K))) :
    Calls Try.prog 9 #[.string s] w fun e w' => medW w w' (rangeL s.data.toList) e := by
  have q3 : (n.toList != [42]) = !b2 := by unfold bne; rw [q2]
  rcases b1 with _ | _ <;> rcases b2 with _ | _
  all_goals first | (exfalso; simp at hb; done) | skip
  all_goals
    go_enter Try.func9, Try.ntmps9
    go_wp2_with fail
    refine (mParO_is hs H).mono ?_; rintro e w1 ⟨a1, cap1, rfl, hO1, hb1⟩
    have O1 := box hO1
    have C1 := box ((C3.new (.string ⟨#[]⟩) (.string ⟨#[]⟩) (.slice none 0 0) w 24).next hb1)
    have B1 := box ((below_new w _).trans (hb1.mono (below_new w _).size))
    clear hO1 hb1
    go_wp2_with fail
    refine (Cut_any x 47 _ HXM.out).mono ?_; rintro e w2 ⟨rfl, hb2⟩; rw [HV.out]
    have O2 := box (own_below O1.out hb2)
    have C2 := box (C1.out.next hb2)
    have B2 := box (B1.out.trans (hb2.mono B1.out.size))
    clear hb2 O1 C1 B1
    go_wp2_with fail
    refine (aToken_is HMM.out HT1).mono ?_; rintro e w3 ⟨rfl, rfl⟩
    go_wp2_with fail
    refine (aToken_is HNM.out HT2).mono ?_; rintro e w3 ⟨rfl, rfl⟩
    go_wp2_with fail
    refine (aLower_is hm4 HL1).mono ?_; rintro e w4 ⟨rfl, hb4⟩
    go_wp2_with fail
    refine (aLower_is hn4 HL2).mono ?_; rintro e w5 ⟨rfl, hb5⟩
    have hb6 := hb4.trans (hb5.mono hb4.size)
    have O6 := own_below O2.out hb6
    have B6 := B2.out.trans (hb6.mono B2.out.size)
    obtain ⟨⟨r0, r1, r2⟩, ⟨f0, f1, f2⟩⟩ := C2.out.next hb6
    clear hb4 hb5 hb6
    go_wp2
    (try simp only [Exit.inBlock, Exit.then])
    refine bodyPost_ret (v := .tuple #[.agg #[.string nm, .string sb, .slice a1 K.length cap1], .bool true]) (by rw [results_cell_tmp rfl]; go_simp) rfl ?_
    exact medW_some HR (own_le (own_only O6 (only3 _ _ _ _ _) (by simp)) (by simp)) (below3 B6 (Nat.le_refl _) _ _ _)
theorem mRange_any (s : ByteArray) (w : World) (hs : s.size ≤ 65000) :
    Calls Try.prog 9 #[.string s] w fun e w' => medW w w' (rangeL s.data.toList) e := by
  obtain ⟨x, hx⟩ : ∃ x, parA s.data.toList = x := ⟨_, rfl⟩
  obtain ⟨K, hK⟩ : ∃ K, parB s.data.toList = K := ⟨_, rfl⟩
  have hxz : x.size ≤ 65000 := by rw [← hx]; exact Nat.le_trans (parA_size s) hs
  rcases hb : parO s.data.toList with _ | _
  · exact mRange_0 s x K w hs (box ⟨hx, hK, hb⟩) (box (range_par hb))
  · obtain ⟨m, hm⟩ : ∃ m, bs (cut1 47 x.data.toList) = m := ⟨_, rfl⟩
    obtain ⟨n, hn⟩ : ∃ n, bs (cut2 47 x.data.toList) = n := ⟨_, rfl⟩
    have HV : Box (cutV 47 x.data.toList = .tuple #[.string m, .string n, .bool (cutB 47 x.data.toList)]) := box (by unfold cutV; rw [hm, hn])
    have hxl : x.data.toList.length = x.size := by simp
    have hmz : m.size ≤ 65000 := by
      rw [← hm, bs_size]
      have : (cut1 47 x.data.toList).length ≤ x.data.toList.length := by unfold cut1; exact (List.takeWhile_sublist _).length_le
      omega
    have hnz : n.size ≤ 65000 := by
      rw [← hn, bs_size]
      have : (cut2 47 x.data.toList).length ≤ x.data.toList.length := by
        unfold cut2; rw [List.length_drop]; have := (List.dropWhile_sublist (· != (47 : UInt8)) (l := x.data.toList)).length_le; omega
      omega
    have hm1 : m.data.toList = cut1 47 x.data.toList := by rw [← hm]; rfl
    have hn1 : n.data.toList = cut2 47 x.data.toList := by rw [← hn]; rfl
    have hr := range_type hb hx
    rw [type_as, ← hm1, ← hn1, hK] at hr
    have H := box (And.intro hx (And.intro hK hb))
    have m1 : Box (x.size ≤ maxLen) := box (by unfold maxLen; omega)
    have m2 : Box (m.size ≤ maxLen) := box (by unfold maxLen; omega)
    have m3 : Box (n.size ≤ maxLen) := box (by unfold maxLen; omega)
    rcases h1 : tokL m.data.toList with _ | _
    · rw [if_pos (.inl h1)] at hr
      exact mRange_1 s x m n K _ w hs H m1 m2 m3 HV (box h1) (box hr)
    · rcases h2 : tokL n.data.toList with _ | _
      · rw [if_pos (.inr h2)] at hr
        exact mRange_2 s x m n K _ w hs H m1 m2 m3 HV (box h1) (box h2) (box hr)
      · rw [if_neg (by rw [h1, h2]; simp)] at hr
        rcases q1 : (m.toList == [42]) with _ | _
        · rw [if_neg (fun h => by have := (star_is q1).1 h.1; cases this)] at hr
          exact mRange_4 s x m n K _ w hs H m1 m2 m3 HV (box h1) (box h2) _ _ q1 rfl (.inl rfl) (by omega) (by omega) _ _ (box rfl) (box rfl) (box hr)
        · rcases q2 : (n.toList == [42]) with _ | _
          · rw [if_pos ⟨(star_is q1).2 rfl, fun h => by have := (star_is q2).1 h; cases this⟩] at hr
            exact mRange_3 s x m n K _ w hs H m1 m2 m3 HV (box h1) (box h2) q1 q2 (box hr)
          · rw [if_neg (fun h => h.2 ((star_is q2).2 rfl))] at hr
            exact mRange_4 s x m n K _ w hs H m1 m2 m3 HV (box h1) (box h2) _ _ q1 q2 (.inr rfl) (by omega) (by omega) _ _ (box rfl) (box rfl) (box hr)
theorem mRange_is {s : ByteArray} {a b : ByteArray} {L : List F} {q : Bool} {w : World} (hs : s.size ≤ 65000) (h : Box (ofM (rangeL s.data.toList) = (a, b, L) ∧ (rangeL s.data.toList).isSome = q)) :
    Calls Try.prog 9 #[.string s] w fun e w' => ∃ p cap, e = .returned (.tuple #[.agg #[.string a, .string b, .slice p L.length cap], .bool q]) ∧ OwnP w' w.heap.size (.slice p L.length cap) L ∧ Below w.heap.size w w' :=
  (mRange_any s w hs).mono fun e w' ⟨v, h1, h2, h3⟩ => by
    rw [h.out.1] at h1 h2
    rw [h.out.2] at h1
    obtain ⟨p, cap, rfl, _, _⟩ := h2.fs
    exact ⟨p, cap, h1, h2, h3⟩
/-- a range with a star for its type has one for its subtype -/
theorem range_stars {l : List UInt8} {a b : ByteArray} {L : List F} (h : rangeL l = some (a, b, L)) (ha : a = star) : b = star := by
  unfold rangeL at h
  split at h
  · cases h
  · rename_i v K _
    rw [type_as] at h
    split at h
    · cases h
    · rename_i x y hxy
      split at hxy
      · cases hxy
      · rename_i ht
        split at hxy
        · cases hxy
        · rename_i hs
          simp only [Option.some.injEq, Prod.mk.injEq] at hxy h
          obtain ⟨rfl, rfl⟩ := hxy
          obtain ⟨rfl, rfl, _⟩ := h
          have t1 : tokL (cut1 47 v) = true := by
            rcases q : tokL (cut1 47 v) with _ | _
            · exact absurd (.inl q) ht
            · rfl
          have e1 : lowL (cut1 47 v) = [42] := bs_inj (b := [42]) ha
          have e2 := (low_star t1).1 e1
          have e3 : cut2 47 v = [42] := by
            rcases Classical.em (cut2 47 v = [42]) with q | q
            · exact q
            · exact absurd ⟨e2, q⟩ hs
          rw [e3]; rfl
theorem media_alt (l : List UInt8) : mediaL l = if (rangeL l).isSome = true then (if (ofM (rangeL l)).2.1 = star then none else some (ofM (rangeL l))) else none := by
  rw [media_cases]
  cases h : rangeL l with
  | none => rfl
  | some x =>
    obtain ⟨a, b, L⟩ := x
    show (if a = star ∨ b = star then none else some (a, b, L)) = (if b = star then none else some (a, b, L))
    by_cases hb : b = star
    · rw [if_pos (.inr hb), if_pos hb]
    · rw [if_neg (fun q => q.elim (fun ha => hb (range_stars h ha)) hb), if_neg hb]
set_option maxHeartbeats 1000000 in
theorem mMedia_any (s : ByteArray) (w : World) (hs : s.size ≤ 65000) :
    Calls Try.prog 7 #[.string s] w fun e w' => medW w w' (mediaL s.data.toList) e := by
  obtain ⟨⟨a, b, L⟩, hM⟩ : ∃ m, ofM (rangeL s.data.toList) = m := ⟨_, rfl⟩
  obtain ⟨q, hq⟩ : ∃ q, (rangeL s.data.toList).isSome = q := ⟨_, rfl⟩
  have H := box (And.intro hM hq)
  have HC := media_alt s.data.toList
  rw [hM, hq] at HC
  clear hM hq
  rcases q with _ | _
  · have HR : Box (mediaL s.data.toList = none) := box (by rw [HC]; rfl)
    clear HC
    go_enter Try.func7, Try.ntmps7
    go_wp2_with fail
    refine (mRange_is hs H).mono ?_; rintro e w1 ⟨p, cap, rfl, hO1, hb1⟩
    have C1 := box (((C3.new (.string ⟨#[]⟩) (.string ⟨#[]⟩) (.slice none 0 0) w 24).next hb1).next (below_new w1 (.cells #[.string a, .string b, .slice p L.length cap] 24)))
    have B1 := box (((below_new w _).trans (hb1.mono (below_new w _).size)).alloc ((below_new w _).trans (hb1.mono (below_new w _).size)).size (.cells #[.string a, .string b, .slice p L.length cap] 24))
    have O1 := box (own_below hO1 (below_new w1 (.cells #[.string a, .string b, .slice p L.length cap] 24)))
    clear hO1 hb1
    obtain ⟨⟨r0, r1, r2⟩, ⟨f0, f1, f2⟩⟩ := C1.out
    go_wp2
    (try simp only [Exit.inBlock, Exit.then])
    refine bodyPost_ret (v := .tuple #[.agg #[.string ⟨#[]⟩, .string ⟨#[]⟩, .slice none 0 0], .bool false]) (by rw [results_cell_tmp rfl]; go_simp) rfl ?_
    exact medW_none HR (below3 B1.out (Nat.le_refl _) _ _ _)
  · rcases h2 : (b.toList == [42]) with _ | _
    · have HR : Box (mediaL s.data.toList = some (a, b, L)) := box (by
        rw [HC, if_pos rfl, if_neg (by intro e; have := (star_eq h2).mp e; simp at this)])
      clear HC
      go_enter Try.func7, Try.ntmps7
      go_wp2_with fail
      refine (mRange_is hs H).mono ?_; rintro e w1 ⟨p, cap, rfl, hO1, hb1⟩
      have C1 := box (((C3.new (.string ⟨#[]⟩) (.string ⟨#[]⟩) (.slice none 0 0) w 24).next hb1).next (below_new w1 (.cells #[.string a, .string b, .slice p L.length cap] 24)))
      have B1 := box (((below_new w _).trans (hb1.mono (below_new w _).size)).alloc ((below_new w _).trans (hb1.mono (below_new w _).size)).size (.cells #[.string a, .string b, .slice p L.length cap] 24))
      have O1 := box (own_below hO1 (below_new w1 (.cells #[.string a, .string b, .slice p L.length cap] 24)))
      clear hO1 hb1
      obtain ⟨⟨r0, r1, r2⟩, ⟨f0, f1, f2⟩⟩ := C1.out
      go_wp2
      (try simp only [Exit.inBlock, Exit.then])
      refine bodyPost_ret (v := .tuple #[.agg #[.string a, .string b, .slice p L.length cap], .bool true]) (by rw [results_cell_tmp rfl]; go_simp) rfl ?_
      exact medW_some HR (own_le (own_only O1.out (only3 _ _ _ _ _) (by simp)) (by simp)) (below3 B1.out (Nat.le_refl _) _ _ _)
    · have HR : Box (mediaL s.data.toList = none) := box (by rw [HC, if_pos rfl, if_pos ((star_eq h2).mpr rfl)])
      clear HC
      go_enter Try.func7, Try.ntmps7
      go_wp2_with fail
      refine (mRange_is hs H).mono ?_; rintro e w1 ⟨p, cap, rfl, hO1, hb1⟩
      have C1 := box (((C3.new (.string ⟨#[]⟩) (.string ⟨#[]⟩) (.slice none 0 0) w 24).next hb1).next (below_new w1 (.cells #[.string a, .string b, .slice p L.length cap] 24)))
      have B1 := box (((below_new w _).trans (hb1.mono (below_new w _).size)).alloc ((below_new w _).trans (hb1.mono (below_new w _).size)).size (.cells #[.string a, .string b, .slice p L.length cap] 24))
      have O1 := box (own_below hO1 (below_new w1 (.cells #[.string a, .string b, .slice p L.length cap] 24)))
      clear hO1 hb1
      obtain ⟨⟨r0, r1, r2⟩, ⟨f0, f1, f2⟩⟩ := C1.out
      go_wp2
      (try simp only [Exit.inBlock, Exit.then])
      refine bodyPost_ret (v := .tuple #[.agg #[.string ⟨#[]⟩, .string ⟨#[]⟩, .slice none 0 0], .bool false]) (by rw [results_cell_tmp rfl]; go_simp) rfl ?_
      exact medW_none HR (below3 B1.out (Nat.le_refl _) _ _ _)
end
section
open Go.RowKit
theorem range_len {s : ByteArray} {a b : ByteArray} {L : List F} (h : ofM (rangeL s.data.toList) = (a, b, L)) : L.length ≤ s.size ∧ (∀ i (hi : i < L.length), L[i].1.size ≤ s.size ∧ L[i].2.size ≤ s.size) ∧ a.size ≤ s.size ∧ b.size ≤ s.size := by
  have hz : s.data.toList.length = s.size := by simp
  cases hr : rangeL s.data.toList with
  | none =>
    rw [hr] at h
    cases h
    exact ⟨Nat.zero_le _, fun i hi => absurd hi (by simp), Nat.zero_le _, Nat.zero_le _⟩
  | some x =>
    obtain ⟨c, d, K⟩ := x
    rw [hr] at h
    cases h
    obtain ⟨_, _, h3, h4⟩ := range_facts hr
    exact ⟨by omega, fun i hi => by have := szF_at hi; omega, by omega, by omega⟩
theorem media_len {s : ByteArray} {a b : ByteArray} {L : List F} (h : ofM (mediaL s.data.toList) = (a, b, L)) : L.length ≤ s.size ∧ (∀ i (hi : i < L.length), L[i].1.size ≤ s.size ∧ L[i].2.size ≤ s.size) ∧ a.size ≤ s.size ∧ b.size ≤ s.size := by
  rw [media_cases] at h
  have no : ∀ {x : M}, ofM (none : Option M) = x → x = (a, b, L) → L.length ≤ s.size ∧ (∀ i (hi : i < L.length), L[i].1.size ≤ s.size ∧ L[i].2.size ≤ s.size) ∧ a.size ≤ s.size ∧ b.size ≤ s.size := by
    intro x h1 h2
    rw [← h1] at h2
    cases h2
    exact ⟨Nat.zero_le _, fun i hi => absurd hi (by simp), Nat.zero_le _, Nat.zero_le _⟩
  split at h
  · split at h
    · exact no rfl h
    · exact range_len h
  · exact no rfl h
end
section
open Go.RowKit
/-- a media type in a block of its own -/
def MedAt (g : Nat) (a b : ByteArray) (p : Option Addr) (cap : Nat) (L : List F) (w : World) : Prop := C3 g (.string a) (.string b) (.slice p L.length cap) w ∧ Fs w p L
section
variable {g : Nat} {a b : ByteArray} {p : Option Addr} {cap : Nat} {L : List F} {w w' : World}
theorem MedAt.next (h : MedAt g a b p cap L w) (hb : Below w.heap.size w w') : MedAt g a b p cap L w' := ⟨h.1.next hb, h.2.below hb⟩
theorem MedAt.new (h : Fs w p L) (a b : ByteArray) (cap : Nat) : MedAt w.heap.size a b p cap L (w.alloc (.cells #[.string a, .string b, .slice p L.length cap] 24)) :=
  ⟨C3.new _ _ _ _ _, h.below (below_new _ _)⟩
theorem MedAt.lt (h : MedAt g a b p cap L w) : g < w.heap.size := h.1.lt
end
theorem mMed_is {s : ByteArray} {a b : ByteArray} {L : List F} {q : Bool} {w : World} (hs : s.size ≤ 65000) (h : Box (ofM (mediaL s.data.toList) = (a, b, L) ∧ (mediaL s.data.toList).isSome = q)) :
    Calls Try.prog 7 #[.string s] w fun e w' => ∃ p cap, e = .returned (.tuple #[.agg #[.string a, .string b, .slice p L.length cap], .bool q]) ∧ Fs w' p L ∧ Below w.heap.size w w' :=
  (mMedia_any s w hs).mono fun e w' ⟨v, h1, h2, h3⟩ => by
    rw [h.out.1] at h1 h2
    rw [h.out.2] at h1
    obtain ⟨p, cap, rfl, hF, _⟩ := h2.fs
    exact ⟨p, cap, h1, hF, h3⟩
theorem rMed_is {s : ByteArray} {a b : ByteArray} {L : List F} {q : Bool} {w : World} (hs : s.size ≤ 65000) (h : Box (ofM (mediaL s.data.toList) = (a, b, L) ∧ (mediaL s.data.toList).isSome = q)) :
    Calls Try.prog 8 #[.string s] w fun e w' => ∃ p cap, e = .returned (.tuple #[.agg #[.string a, .string b, .slice p L.length cap], .bool q]) ∧ Fs w' p L ∧ Below w.heap.size w w' :=
  (rMedia_any s w hs).mono fun e w' ⟨v, h1, h2, h3⟩ => by
    rw [h.out.1] at h1 h2
    rw [h.out.2] at h1
    obtain ⟨p, cap, rfl, hF, _⟩ := h2.fs
    exact ⟨p, cap, h1, hF, h3⟩
theorem mRan_is {s : ByteArray} {a b : ByteArray} {L : List F} {q : Bool} {w : World} (hs : s.size ≤ 65000) (h : Box (ofM (rangeL s.data.toList) = (a, b, L) ∧ (rangeL s.data.toList).isSome = q)) :
    Calls Try.prog 9 #[.string s] w fun e w' => ∃ p cap, e = .returned (.tuple #[.agg #[.string a, .string b, .slice p L.length cap], .bool q]) ∧ Fs w' p L ∧ Below w.heap.size w w' :=
  (mRange_any s w hs).mono fun e w' ⟨v, h1, h2, h3⟩ => by
    rw [h.out.1] at h1 h2
    rw [h.out.2] at h1
    obtain ⟨p, cap, rfl, hF, _⟩ := h2.fs
    exact ⟨p, cap, h1, hF, h3⟩
theorem rRan_is {s : ByteArray} {a b : ByteArray} {L : List F} {q : Bool} {w : World} (hs : s.size ≤ 65000) (h : Box (ofM (rangeL s.data.toList) = (a, b, L) ∧ (rangeL s.data.toList).isSome = q)) :
    Calls Try.prog 10 #[.string s] w fun e w' => ∃ p cap, e = .returned (.tuple #[.agg #[.string a, .string b, .slice p L.length cap], .bool q]) ∧ Fs w' p L ∧ Below w.heap.size w w' :=
  (rRange_any s w hs).mono fun e w' ⟨v, h1, h2, h3⟩ => by
    rw [h.out.1] at h1 h2
    rw [h.out.2] at h1
    obtain ⟨p, cap, rfl, hF, _⟩ := h2.fs
    exact ⟨p, cap, h1, hF, h3⟩
theorem sameM_is {a b : ByteArray} {p q : Option Addr} {cp cq n m : Nat} {L : List F} {w : World} (hn : Box (L.length = n)) (hm : Box (L.length = m)) (hl : Box (L.length ≤ 65536)) (hK : Fs w p L) (hL : Fs w q L) :
    Calls Try.prog 11 #[.agg #[.string a, .string b, .slice p n cp], .agg #[.string a, .string b, .slice q m cq]] w fun e w' => e = .returned (.bool true) ∧ Below w.heap.size w w' := by
  obtain rfl := hn.out
  obtain rfl := hm.out
  have := sameMedia_any a b a b p q cp cq L L w hl.out hl.out (box hK) (box hL)
  rwa [decide_eq_true rfl] at this
theorem match_is {a b c d : ByteArray} {p q : Option Addr} {cp cq n m : Nat} {K L : List F} {i : Int} {w : World} (hn : Box (K.length = n)) (hm : Box (L.length = m)) (hk : Box (K.length ≤ 65536)) (hl : Box (L.length ≤ 65536))
    (hzK : Box (∀ i (hi : i < K.length), K[i].1.size ≤ 65536 ∧ K[i].2.size ≤ 65536)) (hzL : Box (∀ i (hi : i < L.length), L[i].1.size ≤ 65536 ∧ L[i].2.size ≤ 65536)) (hK : Fs w p K) (hL : Fs w q L) (h : Box (matchI (a, b, K) (c, d, L) = i)) :
    Calls Try.prog 14 #[.agg #[.string a, .string b, .slice p n cp], .agg #[.string c, .string d, .slice q m cq]] w fun e w' => e = .returned (.int .i64 i) ∧ Below w.heap.size w w' := by
  have := mMatch10_any a b c d p q cp cq K L w hk.out hl.out hzK hzL (box hK) (box hL)
  rw [hn.out, hm.out, h.out] at this; exact this
theorem rmatch_is {a b c d : ByteArray} {p q : Option Addr} {cp cq n m : Nat} {K L : List F} {i : Int} {w : World} (hn : Box (K.length = n)) (hm : Box (L.length = m)) (hk : Box (K.length ≤ 65536)) (hl : Box (L.length ≤ 65536))
    (hzK : Box (∀ i (hi : i < K.length), K[i].1.size ≤ 65536 ∧ K[i].2.size ≤ 65536)) (hzL : Box (∀ i (hi : i < L.length), L[i].1.size ≤ 65536 ∧ L[i].2.size ≤ 65536)) (hK : Fs w p K) (hL : Fs w q L) (h : Box (matchI (a, b, K) (c, d, L) = i)) :
    Calls Try.prog 15 #[.agg #[.string a, .string b, .slice p n cp], .agg #[.string c, .string d, .slice q m cq]] w fun e w' => e = .returned (.int .i64 i) ∧ Below w.heap.size w w' := by
  have := rMatch_any a b c d p q cp cq K L w hk.out hl.out hzK hzL (box hK) (box hL)
  rw [hn.out, hm.out, h.out] at this; exact this
def aw10a : ByteArray := ⟨#[116, 101, 120, 116, 47, 104, 116, 109, 108, 59, 108, 101, 118, 101, 108, 61, 49]⟩
def aw10b : ByteArray := ⟨#[84, 69, 88, 84, 47, 104, 116, 109, 108, 59, 32, 76, 101, 118, 101, 108, 61, 49]⟩
def awT : ByteArray := ⟨#[116, 101, 120, 116]⟩
def awH : ByteArray := ⟨#[104, 116, 109, 108]⟩
def awP : List F := [(⟨#[108, 101, 118, 101, 108]⟩, ⟨#[49]⟩)]
theorem aw10_range : ofM (rangeL aw10a.data.toList) = (awT, awH, awP) ∧ (rangeL aw10a.data.toList).isSome = true := by decide +kernel
theorem aw10_media : ofM (mediaL aw10b.data.toList) = (awT, awH, awP) ∧ (mediaL aw10b.data.toList).isSome = true := by decide +kernel
theorem aw10_match : matchI (awT, awH, awP) (awT, awH, awP) = 3 := by decide +kernel
theorem aw10_small : ∀ i (hi : i < awP.length), awP[i].1.size ≤ 65536 ∧ awP[i].2.size ≤ 65536 := by
  intro i hi
  match i, hi with
  | 0, _ => exact ⟨by show 5 ≤ 65536; omega, by show 1 ≤ 65536; omega⟩
theorem awake10_any (w : World) : Calls Try.prog 12 #[] w fun e w' => e = .returned (.bool true) ∧ Below w.heap.size w w' := by
  have H1 := box aw10_range
  have H2 := box aw10_media
  have H3 := box aw10_match
  have H4 := box aw10_small
  have z1 : aw10a.size ≤ 65000 := by decide
  have z2 : aw10b.size ≤ 65000 := by decide
  go_enter Try.func12, Try.ntmps12
  go_wp2_with fail
  refine (mRan_is (s := aw10a) z1 H1).mono ?_; rintro e w1 ⟨p1, c1, rfl, hF1, hb1⟩
  have hnw := below_new w1 (.cells #[.string awT, .string awH, .slice p1 awP.length c1] 24)
  have M1 := box (MedAt.new hF1 awT awH c1)
  have B1 := box (hb1.trans (hnw.mono hb1.size))
  clear hF1 hb1 hnw
  go_wp2_with fail
  refine (mMed_is (s := aw10b) z2 H2).mono ?_; rintro e w2 ⟨p2, c2, rfl, hF2, hb2⟩
  have hnw := below_new w2 (.cells #[.string awT, .string awH, .slice p2 awP.length c2] 24)
  have M12 := M1.out.next hb2
  have F1 := box (M12.2.below hnw)
  have F2 := box (hF2.below hnw)
  have B2 := box (B1.out.trans ((hb2.trans (hnw.mono hb2.size)).mono B1.out.size))
  have hne : w1.heap.size ≠ w2.heap.size := Nat.ne_of_lt M12.lt
  obtain ⟨⟨⟨s0, s1, s2⟩, _⟩, _⟩ := M12.next hnw
  obtain ⟨⟨⟨r0, r1, r2⟩, _⟩, _⟩ := M12
  clear hF2 hb2 hnw
  go_wp2_with fail
  refine (match_is (K := awP) (L := awP) (box rfl) (box rfl) (box (by decide)) (box (by decide)) H4 H4 F1.out F2.out H3).mono ?_; rintro e w3 ⟨rfl, hb3⟩
  have B3 := box (B2.out.trans (hb3.mono B2.out.size))
  clear hb3 r0 r1 r2
  go_wp2
  go_ret
  exact ⟨rfl, B3.out⟩
set_option maxHeartbeats 1000000 in
theorem parses10_walk (s : ByteArray) (w : World) (S : s.size ≤ maxLen) :
    Calls Try.prog 3 #[.string s] w fun e w' => e = .returned (.bool true) ∧ Below w.heap.size w w' := by
  unfold maxLen at S
  by_cases h : 2000 < s.size
  · have hi : (2000 : Int) < (s.size : Int) := by omega
    go_enter Try.func3, Try.ntmps3
    go_wp2
    go_ret
    exact ⟨rfl, Below.refl _ _⟩
  · have hi : ¬ (2000 : Int) < (s.size : Int) := by omega
    have hs6 : s.size ≤ 65000 := by omega
    obtain ⟨⟨a, b, L⟩, hM⟩ : ∃ m, ofM (mediaL s.data.toList) = m := ⟨_, rfl⟩
    obtain ⟨q, hq⟩ : ∃ q, (mediaL s.data.toList).isSome = q := ⟨_, rfl⟩
    obtain ⟨⟨c, d, K⟩, hR⟩ : ∃ m, ofM (rangeL s.data.toList) = m := ⟨_, rfl⟩
    obtain ⟨r, hr⟩ : ∃ q, (rangeL s.data.toList).isSome = q := ⟨_, rfl⟩
    have hL : Box (L.length ≤ 65536) := box (by have := (media_len hM).1; omega)
    have hK : Box (K.length ≤ 65536) := box (by have := (range_len hR).1; omega)
    have HM := box (And.intro hM hq)
    have HR := box (And.intro hR hr)
    clear hM hq hR hr
    go_enter Try.func3, Try.ntmps3
    go_wp2_with fail
    refine (mMed_is hs6 HM).mono ?_; rintro e w1 ⟨p1, c1, rfl, hF1, hb1⟩
    have hnw := below_new w1 (.cells #[.string a, .string b, .slice p1 L.length c1] 24)
    have M1 := box (MedAt.new hF1 a b c1)
    have B1 := box (hb1.trans (hnw.mono hb1.size))
    clear hF1 hb1 hnw
    go_wp2_with fail
    refine (rMed_is hs6 HM).mono ?_; rintro e w2 ⟨p2, c2, rfl, hF2, hb2⟩
    have hnw := below_new w2 (.cells #[.string a, .string b, .slice p2 L.length c2] 24)
    have M1 := box ((M1.out.next hb2).next hnw)
    have M2 := box (MedAt.new hF2 a b c2)
    have B2 := box (B1.out.trans ((hb2.trans (hnw.mono hb2.size)).mono B1.out.size))
    clear hF2 hb2 hnw
    go_wp2_with fail
    refine (mRan_is hs6 HR).mono ?_; rintro e w3 ⟨p3, c3, rfl, hF3, hb3⟩
    have hnw := below_new w3 (.cells #[.string c, .string d, .slice p3 K.length c3] 24)
    have M1 := box ((M1.out.next hb3).next hnw)
    have M2 := box ((M2.out.next hb3).next hnw)
    have M3 := box (MedAt.new hF3 c d c3)
    have B3 := box (B2.out.trans ((hb3.trans (hnw.mono hb3.size)).mono B2.out.size))
    clear hF3 hb3 hnw
    go_wp2_with fail
    refine (rRan_is hs6 HR).mono ?_; rintro e w4 ⟨p4, c4, rfl, hF4, hb4⟩
    have hnw := below_new w4 (.cells #[.string c, .string d, .slice p4 K.length c4] 24)
    have N1 := M1.out.next hb4
    have N2 := M2.out.next hb4
    have M3 := box ((M3.out.next hb4).next hnw)
    have M4 := box (MedAt.new hF4 c d c4)
    have B4 := box (B3.out.trans ((hb4.trans (hnw.mono hb4.size)).mono B3.out.size))
    have n1 : w1.heap.size ≠ w4.heap.size := Nat.ne_of_lt N1.lt
    have n2 : w2.heap.size ≠ w4.heap.size := Nat.ne_of_lt N2.lt
    have F1 := box (N1.next hnw).2
    have F2 := box (N2.next hnw).2
    obtain ⟨⟨⟨r0, r1, r2⟩, _⟩, _⟩ := N1.next hnw
    obtain ⟨⟨⟨s0, s1, s2⟩, _⟩, _⟩ := N2.next hnw
    clear N1 N2 hF4 hb4 hnw M1 M2
    go_wp2_with fail
    refine (sameM_is (L := L) (box rfl) (box rfl) hL F1.out F2.out).mono ?_; rintro e w5 ⟨rfl, hb5⟩
    have N3 := M3.out.next hb5
    have N4 := M4.out.next hb5
    have B5 := box (B4.out.trans (hb5.mono B4.out.size))
    have F3 := box N3.2
    have F4 := box N4.2
    clear r0 r1 r2 s0 s1 s2 n1 n2 hb5 M3 M4 F1 F2
    obtain ⟨⟨⟨r0, r1, r2⟩, _⟩, _⟩ := N3
    obtain ⟨⟨⟨s0, s1, s2⟩, _⟩, _⟩ := N4
    go_wp2_with fail
    refine (sameM_is (L := K) (box rfl) (box rfl) hK F3.out F4.out).mono ?_; rintro e w6 ⟨rfl, hb6⟩
    have B6 := box (B5.out.trans (hb6.mono B5.out.size))
    clear hb6 r0 r1 r2 s0 s1 s2 F3 F4
    go_wp2_with fail
    refine (awake10_any _).mono ?_; rintro e w7 ⟨rfl, hb7⟩
    have B7 := box (B6.out.trans (hb7.mono B6.out.size))
    clear hb7
    go_wp2
    go_ret
    exact ⟨rfl, B7.out⟩
end
section
open Go.RowKit Go.ChangeShapes Go.WideShapes Go.Deep
def mtV (x y : ByteArray) (a : Option Addr) (cap : Nat) (L : List F) : Value := .agg #[.string x, .string y, .slice a L.length cap]
theorem three {α : Type} {l : Array α} (h : l.size = 3) : ∃ a b c, l = #[a, b, c] := by
  obtain ⟨l⟩ := l
  match l, h with
  | [a, b, c], _ => exact ⟨a, b, c, rfl⟩
theorem params_trod {H : Type} {enc : TypeId × Value → H} {W : World} {base fuel : Nat} {sp : Nat → Bool} {held : Bool} {cs : List Value} {x : DataW H × List MemPlace}
    (h : DataW.trod enc Try.prog W base sp held fuel 22 cs = some x) :
    ∃ (a : Option Addr) (cap : Nat) (L : List F), cs = [.slice a L.length cap] ∧ L.length ≤ maxLen ∧ Fs W a L ∧ L.length ≤ cap := by
  rcases open_slice_pairs Try.underlying22 Try.underlying35 (by kernel_rfl) rfl rfl (by kernel_rfl) (by kernel_rfl) h with ⟨hcs, hx⟩ | ⟨a, len, cap, m, n, V0, V1, D0, D1, P0, P1, hcs, _, hl, hm, hmm, hx, hi⟩
  · exact ⟨none, 0, [], hcs, Nat.zero_le _, fun i hi => absurd hi (by simp), Nat.le_refl _⟩
  · have hlm : len ≤ m := by rw [hmm]; split <;> omega
    refine ⟨some a, cap, (List.range len).map fun i => (strOf (V0 i), strOf (V1 i)), by simpa using hcs, by simp; omega, fun i hi2 => ?_, by simp; omega⟩
    have hil : i < len := by simpa using hi2
    obtain ⟨g, off, spot⟩ := a
    obtain ⟨z0, _, _, _⟩ := hi 0 (by omega)
    have hspot : spot = none := by simpa [Addr.add] using World.cell?_spot z0
    subst hspot
    obtain ⟨k0, k1, t0, t1⟩ := hi i (by omega)
    obtain ⟨s0, e0, _, _⟩ := DataW.trod_string Try.underlying9 t0
    obtain ⟨s1, e1, _, _⟩ := DataW.trod_string Try.underlying9 t1
    rw [add_plain] at k0 k1
    simp at e0 e1
    refine ⟨g, off, rfl, ?_, ?_⟩
    · rw [k0, e0]; simp [strOf, e0]
    · rw [← Nat.add_assoc] at k1
      rw [k1, e1]; simp [strOf, e1]
theorem open_media {H : Type} {enc : TypeId × Value → H} {W : World} {base : Nat} {sp : Nat → Bool} {held : Bool} {r : Reach} {b0 : Nat} {v : Value} {d : DataW H} {ps : List MemPlace}
    (hval : Value.okWide Try.prog W r b0 24 v) (h : DataW.Trod enc Try.prog W base sp held 24 v d ps) :
    ∃ (x y : ByteArray) (a : Option Addr) (cap : Nat) (L : List F), v = mtV x y a cap L ∧ x.size ≤ maxLen ∧ y.size ≤ maxLen ∧ L.length ≤ maxLen ∧ Fs W a L ∧ L.length ≤ cap := by
  obtain ⟨cs, rfl, hsz⟩ := okWide_struct Try.underlying24 hval
  rw [show Try.prog.cellsOf 24 = 3 from by kernel_rfl] at hsz
  obtain ⟨c0, c1, c2, rfl⟩ := three hsz
  obtain ⟨fuel, hf⟩ := h
  obtain ⟨xs, m, _, _, _, hlen, hg⟩ := DataW.trod_struct Try.underlying24 hf
  have cS : Try.prog.cellsOf 9 = 1 := by kernel_rfl
  have cP : Try.prog.cellsOf 22 = 1 := by kernel_rfl
  have g0 := hg 0 _ rfl
  have g1 := hg 1 _ rfl
  have g2 := hg 2 _ rfl
  have hl : xs.length = 3 := hlen
  match xs, hl with
  | [y0, y1, y2], _ =>
    simp [Value.cells, cS, cP] at g0 g1 g2
    obtain ⟨x, e0, _, w0⟩ := DataW.trod_string Try.underlying9 g0
    obtain ⟨y, e1, _, w1⟩ := DataW.trod_string Try.underlying9 g1
    obtain ⟨a, cap, L, e2, l2, f2, c2'⟩ := params_trod g2
    simp at e0 e1 e2
    subst e0 e1 e2
    exact ⟨x, y, a, cap, L, rfl, w0, w1, l2, f2, c2'⟩
end
end Go.Proofs.Ytkalddhokoldgaa.Asc
