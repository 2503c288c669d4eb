/- Merged texts: MedMine. -/
import Derived.Test.YtnpllgjkbpnimaaGreatDoorM01
import Derived.Test.YtnpllgjkbpnimaaGreatDoorM07
import Derived.Test.YtnpllgjkbpnimaaGreatDoorM09
import Derived.Test.YtnpllgjkbpnimaaGreatDoorM11
set_option linter.unusedVariables false
set_option linter.unusedSimpArgs false
set_option maxRecDepth 100000
namespace Go.Proofs.YtnpllgjkbpnimaaGreatDoor.Asc
section
open Go.RowKit
/-- Parse of param with its results as letters -/
theorem mParO_is {s x : ByteArray} {K : List F} {b : Bool} {w : World} (hs : s.size ≤ 65000) (h : Box (parA s.data.toList = x ∧ parB s.data.toList = K ∧ parO s.data.toList = b)) :
    Calls Tryz.prog 49 #[.string s] w fun e w' => ∃ a cap, e = .returned (.tuple #[.string x, .slice a K.length cap, .bool b]) ∧ OwnP w' w.heap.size (.slice a K.length cap) K ∧ Below w.heap.size w w' :=
  (mPar_any s w hs).mono fun e w' ⟨v, h1, h2, h3⟩ => by
    obtain ⟨rfl, rfl, rfl⟩ := h.out
    obtain ⟨a, cap, rfl, hS, hc⟩ := h2.fs
    exact ⟨a, cap, h1, h2, h3⟩
theorem mFmt10_any (a b : ByteArray) (p : Option Addr) (cap : Nat) (L : List F) (w : World) (ha : a.size ≤ 30000) (hb : b.size ≤ 30000) (hl : L.length ≤ 65536) (hz : Box (∀ i (hi : i < L.length), L[i].1.size ≤ 65536 ∧ L[i].2.size ≤ 65536)) (hF : Box (Fs w p L)) :
    Calls Tryz.prog 108 #[.agg #[.string a, .string b, .slice p L.length cap]] w fun e w' => e = .returned (.string (fmtMB (a, b, L))) ∧ Below w.heap.size w w' := by
  have s1 : (a ++ (⟨#[47]⟩ : ByteArray)).size = a.size + 1 := by rw [ByteArray.size_append]; rfl
  have r1 : ∀ w, (Op.stringOp .add a ⟨#[47]⟩).run Tryz.prog w = .ok (.string (a ++ ⟨#[47]⟩)) w := fun w => run_string_add_sum w _ _ (by show a.size + 1 ≤ 9223372036854775807; omega)
  have r2 : ∀ w, (Op.stringOp .add (a ++ (⟨#[47]⟩ : ByteArray)) b).run Tryz.prog w = .ok (.string (a ++ ⟨#[47]⟩ ++ b)) w := fun w => run_string_add_sum w _ _ (by rw [s1]; show a.size + 1 + b.size ≤ 9223372036854775807; omega)
  have hv : (a ++ (⟨#[47]⟩ : ByteArray) ++ b).size ≤ 65536 := by rw [ByteArray.size_append, s1]; omega
  clear s1
  go_enter Tryz.func108, Tryz.ntmps108
  go_wp2_with fail
  refine (mFmt9_any (a ++ (⟨#[47]⟩ : ByteArray) ++ b) p cap L _ hv hl hz (box (hF.out.below (below_new w _)))).mono ?_; rintro e w1 ⟨rfl, hb1⟩
  have B1 := box ((below_new w _).trans (hb1.mono (below_new w _).size))
  clear hb1
  go_wp2
  go_ret
  exact ⟨rfl, B1.out⟩
/-- the ways that end before the parameters are looked at -/
theorem mMatch_early (a b c d : ByteArray) (p q : Option Addr) (cp cq : Nat) (K L : List F) (w : World) (q1 q2 q3 q4 : Bool) (h1 : (a.toList == [42]) = q1) (h2 : (b.toList == [42]) = q2) (h3 : (a.toList == c.toList) = q3) (h4 : (b.toList == d.toList) = q4)
    (hq : (q1 = true ∧ q2 = true) ∨ q3 = false ∨ q2 = true ∨ q4 = false) :
    Calls Tryz.prog 26 #[.agg #[.string a, .string b, .slice p K.length cp], .agg #[.string c, .string d, .slice q L.length cq]] w fun e w' => e = .returned (.int .i64 (matchI (a, b, K) (c, d, L))) ∧ Below w.heap.size w w' := by
  have B2 : Box (Below w.heap.size w ((w.alloc (.cells #[.string a, .string b, .slice p K.length cp] 33)).alloc (.cells #[.string c, .string d, .slice q L.length cq] 33))) := box ((below_new w _).alloc (below_new w _).size _)
  obtain ⟨x, hx⟩ : ∃ x, matchI (a, b, K) (c, d, L) = x := ⟨_, rfl⟩
  have HX := box hx
  unfold matchI at hx
  simp only [h1, h2, h3, h4] at hx
  rw [HX.out]
  clear HX
  have h5 : (a.toList != c.toList) = !q3 := by rw [← h3]; rfl
  cases q1 <;> cases q2 <;> cases q3 <;> cases q4
  all_goals first
    | (exfalso; simp at hq; done)
    | (simp at hx
       subst hx
       clear hq
       go_enter Tryz.func26, Tryz.ntmps26
       go_wp2
       go_ret
       exact ⟨rfl, B2.out⟩)
set_option maxHeartbeats 1000000 in
theorem mMatch_late (a b c d : ByteArray) (p q : Option Addr) (cp cq : Nat) (K L : List F) (w : World) (hk : K.length ≤ 65536) (hl : L.length ≤ 65536)
    (hzK : Box (∀ i (hi : i < K.length), K[i].1.size ≤ 65536 ∧ K[i].2.size ≤ 65536)) (hzL : Box (∀ i (hi : i < L.length), L[i].1.size ≤ 65536 ∧ L[i].2.size ≤ 65536)) (hK : Box (Fs w p K)) (hL : Box (Fs w q L))
    (q1 : Bool) (h1 : (a.toList == [42]) = q1) (h2 : (b.toList == [42]) = false) (h3 : (a.toList == c.toList) = true) (h4 : (b.toList == d.toList) = true) :
    Calls Tryz.prog 26 #[.agg #[.string a, .string b, .slice p K.length cp], .agg #[.string c, .string d, .slice q L.length cq]] w fun e w' => e = .returned (.int .i64 (matchI (a, b, K) (c, d, L))) ∧ Below w.heap.size w w' := by
  have h5 : (a.toList != c.toList) = false := by unfold bne; rw [h3]; rfl
  have b2 : Below w.heap.size w ((w.alloc (.cells #[.string a, .string b, .slice p K.length cp] 33)).alloc (.cells #[.string c, .string d, .slice q L.length cq] 33)) := (below_new w _).alloc (below_new w _).size _
  have B2 := box b2
  have FK := box (hK.out.below b2)
  have FL := box (hL.out.below b2)
  have C0 := box ((C3.new (.string a) (.string b) (.slice p K.length cp) w 33).next (below_new _ (.cells #[.string c, .string d, .slice q L.length cq] 33)))
  clear b2
  have HV : Box (matchI (a, b, K) (c, d, L) = if (K.all fun p => prmIn p L) = true then 2 + (K.length : Int) else -1) := box (by
    unfold matchI; simp [h2, h3, h4])
  rw [HV.out]
  clear HV
  obtain ⟨z, hz⟩ : ∃ z : Bool, (K.all fun p => prmIn p L) = z := ⟨_, rfl⟩
  have HZ : Box (HasIs z K L) := box (by unfold HasIs; rw [inK_prm, hz])
  rw [hz]
  clear hz
  have i4 : IntKind.i64.wrap (2 + (K.length : Int)) = 2 + (K.length : Int) := IntWalk.i64_in _ (by omega)
  rcases q1 with _ | _ <;> rcases z with _ | _
  all_goals
    go_enter Tryz.func26, Tryz.ntmps26
    go_wp2_with fail
    refine (hasParams_any c d p q cp cq K L _ _ hk hl hzK hzL FK FL HZ).mono ?_; rintro e w1 ⟨rfl, hb1⟩
    have B3 := box (B2.out.trans (hb1.mono B2.out.size))
    have C1 := box (C0.out.next hb1)
    obtain ⟨⟨d0, d1, d2⟩, _⟩ := C1.out
    clear hb1
    go_wp2
    go_ret
    exact ⟨by simp, B3.out⟩
theorem mMatch10_any (a b c d : ByteArray) (p q : Option Addr) (cp cq : Nat) (K L : List F) (w : World) (hk : K.length ≤ 65536) (hl : L.length ≤ 65536)
    (hzK : Box (∀ i (hi : i < K.length), K[i].1.size ≤ 65536 ∧ K[i].2.size ≤ 65536)) (hzL : Box (∀ i (hi : i < L.length), L[i].1.size ≤ 65536 ∧ L[i].2.size ≤ 65536)) (hK : Box (Fs w p K)) (hL : Box (Fs w q L)) :
    Calls Tryz.prog 26 #[.agg #[.string a, .string b, .slice p K.length cp], .agg #[.string c, .string d, .slice q L.length cq]] w fun e w' => e = .returned (.int .i64 (matchI (a, b, K) (c, d, L))) ∧ Below w.heap.size w w' := by
  by_cases h : (b.toList == [42]) = false ∧ (a.toList == c.toList) = true ∧ (b.toList == d.toList) = true
  · exact mMatch_late a b c d p q cp cq K L w hk hl hzK hzL hK hL _ rfl h.1 h.2.1 h.2.2
  · refine mMatch_early a b c d p q cp cq K L w _ _ _ _ rfl rfl rfl rfl ?_
    rcases h2 : (b.toList == [42]) with _ | _
    · rcases h3 : (a.toList == c.toList) with _ | _
      · exact .inr (.inl rfl)
      · rcases h4 : (b.toList == d.toList) with _ | _
        · exact .inr (.inr (.inr rfl))
        · exact absurd ⟨h2, h3, h4⟩ h
    · exact .inr (.inr (.inl rfl))
theorem tok_nil : tokL [] = false := rfl
/-- a range without a slash is none, by its empty subtype -/
theorem type_as (v : List UInt8) : typeL v = if tokL (cut1 47 v) = false ∨ tokL (cut2 47 v) = false then none
    else if cut1 47 v = [42] ∧ cut2 47 v ≠ [42] then none else some (bs (lowL (cut1 47 v)), bs (lowL (cut2 47 v))) := by
  unfold typeL
  rcases hb : cutB 47 v with _ | _
  · have : cut2 47 v = [] := by
      rcases idx_cases v 47 with hi | ⟨o, hi, ho⟩
      · exact (cut_no hi).2.1
      · rw [(cut_at hi).2.2.2] at hb; exact absurd hb (by decide)
    rw [this, tok_nil]
    simp
  · rcases h1 : tokL (cut1 47 v) with _ | _ <;> rcases h2 : tokL (cut2 47 v) with _ | _ <;> simp
theorem mRange_0 (s x : ByteArray) (K : List F) (w : World) (hs : s.size ≤ 65000) (H : Box (parA s.data.toList = x ∧ parB s.data.toList = K ∧ parO s.data.toList = false)) (HR : Box (rangeL s.data.toList = none)) :
    Calls Tryz.prog 24 #[.string s] w fun e w' => medW w w' (rangeL s.data.toList) e := by
  go_enter Tryz.func24, Tryz.ntmps24
  go_wp2_with fail
  refine (mParO_is hs H).mono ?_; rintro e w1 ⟨a1, cap1, rfl, hO1, hb1⟩
  have O1 := box hO1
  have C1 := box ((C3.new (.string ⟨#[]⟩) (.string ⟨#[]⟩) (.slice none 0 0) w 33).next hb1)
  have B1 := box ((below_new w _).trans (hb1.mono (below_new w _).size))
  clear hO1 hb1
  obtain ⟨⟨r0, r1, r2⟩, ⟨f0, f1, f2⟩⟩ := C1.out
  go_wp2
  (try simp only [Exit.inBlock, Exit.then])
  refine bodyPost_ret (v := .tuple #[.agg #[.string ⟨#[]⟩, .string ⟨#[]⟩, .slice none 0 0], .bool false]) (by rw [results_cell_tmp rfl]; go_simp) rfl ?_
  exact medW_none HR (below3 B1.out (Nat.le_refl _) _ _ _)
theorem mRange_1 (s x m n : ByteArray) (K : List F) (q : Bool) (w : World) (hs : s.size ≤ 65000) (H : Box (parA s.data.toList = x ∧ parB s.data.toList = K ∧ parO s.data.toList = true)) (HXM : Box (x.size ≤ maxLen)) (HMM : Box (m.size ≤ maxLen)) (HNM : Box (n.size ≤ maxLen)) (HV : Box (cutV 47 x.data.toList = .tuple #[.string m, .string n, .bool q])) (HT1 : Box (tokL m.data.toList = false)) (HR : Box (rangeL s.data.toList = none)) :
    Calls Tryz.prog 24 #[.string s] w fun e w' => medW w w' (rangeL s.data.toList) e := by
  go_enter Tryz.func24, Tryz.ntmps24
  go_wp2_with fail
  refine (mParO_is hs H).mono ?_; rintro e w1 ⟨a1, cap1, rfl, hO1, hb1⟩
  have O1 := box hO1
  have C1 := box ((C3.new (.string ⟨#[]⟩) (.string ⟨#[]⟩) (.slice none 0 0) w 33).next hb1)
  have B1 := box ((below_new w _).trans (hb1.mono (below_new w _).size))
  clear hO1 hb1
  go_wp2_with fail
  refine (Cut_any x 47 _ HXM.out).mono ?_; rintro e w2 ⟨rfl, hb2⟩; rw [HV.out]
  have O2 := box (own_below O1.out hb2)
  have C2 := box (C1.out.next hb2)
  have B2 := box (B1.out.trans (hb2.mono B1.out.size))
  clear hb2 O1 C1 B1
  go_wp2_with fail
  refine (aToken_is HMM.out HT1).mono ?_; rintro e w3 ⟨rfl, rfl⟩
  obtain ⟨⟨r0, r1, r2⟩, ⟨f0, f1, f2⟩⟩ := C2.out
  go_wp2
  (try simp only [Exit.inBlock, Exit.then])
  refine bodyPost_ret (v := .tuple #[.agg #[.string ⟨#[]⟩, .string ⟨#[]⟩, .slice none 0 0], .bool false]) (by rw [results_cell_tmp rfl]; go_simp) rfl ?_
  exact medW_none HR (below3 B2.out (Nat.le_refl _) _ _ _)
theorem mRange_2 (s x m n : ByteArray) (K : List F) (q : Bool) (w : World) (hs : s.size ≤ 65000) (H : Box (parA s.data.toList = x ∧ parB s.data.toList = K ∧ parO s.data.toList = true)) (HXM : Box (x.size ≤ maxLen)) (HMM : Box (m.size ≤ maxLen)) (HNM : Box (n.size ≤ maxLen)) (HV : Box (cutV 47 x.data.toList = .tuple #[.string m, .string n, .bool q])) (HT1 : Box (tokL m.data.toList = true)) (HT2 : Box (tokL n.data.toList = false)) (HR : Box (rangeL s.data.toList = none)) :
    Calls Tryz.prog 24 #[.string s] w fun e w' => medW w w' (rangeL s.data.toList) e := by
  go_enter Tryz.func24, Tryz.ntmps24
  go_wp2_with fail
  refine (mParO_is hs H).mono ?_; rintro e w1 ⟨a1, cap1, rfl, hO1, hb1⟩
  have O1 := box hO1
  have C1 := box ((C3.new (.string ⟨#[]⟩) (.string ⟨#[]⟩) (.slice none 0 0) w 33).next hb1)
  have B1 := box ((below_new w _).trans (hb1.mono (below_new w _).size))
  clear hO1 hb1
  go_wp2_with fail
  refine (Cut_any x 47 _ HXM.out).mono ?_; rintro e w2 ⟨rfl, hb2⟩; rw [HV.out]
  have O2 := box (own_below O1.out hb2)
  have C2 := box (C1.out.next hb2)
  have B2 := box (B1.out.trans (hb2.mono B1.out.size))
  clear hb2 O1 C1 B1
  go_wp2_with fail
  refine (aToken_is HMM.out HT1).mono ?_; rintro e w3 ⟨rfl, rfl⟩
  go_wp2_with fail
  refine (aToken_is HNM.out HT2).mono ?_; rintro e w3 ⟨rfl, rfl⟩
  obtain ⟨⟨r0, r1, r2⟩, ⟨f0, f1, f2⟩⟩ := C2.out
  go_wp2
  (try simp only [Exit.inBlock, Exit.then])
  refine bodyPost_ret (v := .tuple #[.agg #[.string ⟨#[]⟩, .string ⟨#[]⟩, .slice none 0 0], .bool false]) (by rw [results_cell_tmp rfl]; go_simp) rfl ?_
  exact medW_none HR (below3 B2.out (Nat.le_refl _) _ _ _)
theorem mRange_3 (s x m n : ByteArray) (K : List F) (q : Bool) (w : World) (hs : s.size ≤ 65000) (H : Box (parA s.data.toList = x ∧ parB s.data.toList = K ∧ parO s.data.toList = true)) (HXM : Box (x.size ≤ maxLen)) (HMM : Box (m.size ≤ maxLen)) (HNM : Box (n.size ≤ maxLen)) (HV : Box (cutV 47 x.data.toList = .tuple #[.string m, .string n, .bool q])) (HT1 : Box (tokL m.data.toList = true)) (HT2 : Box (tokL n.data.toList = true)) (q1 : (m.toList == [42]) = true) (q2 : (n.toList == [42]) = false) (HR : Box (rangeL s.data.toList = none)) :
    Calls Tryz.prog 24 #[.string s] w fun e w' => medW w w' (rangeL s.data.toList) e := by
  have q3 : (n.toList != [42]) = true := by unfold bne; rw [q2]; rfl
  go_enter Tryz.func24, Tryz.ntmps24
  go_wp2_with fail
  refine (mParO_is hs H).mono ?_; rintro e w1 ⟨a1, cap1, rfl, hO1, hb1⟩
  have O1 := box hO1
  have C1 := box ((C3.new (.string ⟨#[]⟩) (.string ⟨#[]⟩) (.slice none 0 0) w 33).next hb1)
  have B1 := box ((below_new w _).trans (hb1.mono (below_new w _).size))
  clear hO1 hb1
  go_wp2_with fail
  refine (Cut_any x 47 _ HXM.out).mono ?_; rintro e w2 ⟨rfl, hb2⟩; rw [HV.out]
  have O2 := box (own_below O1.out hb2)
  have C2 := box (C1.out.next hb2)
  have B2 := box (B1.out.trans (hb2.mono B1.out.size))
  clear hb2 O1 C1 B1
  go_wp2_with fail
  refine (aToken_is HMM.out HT1).mono ?_; rintro e w3 ⟨rfl, rfl⟩
  go_wp2_with fail
  refine (aToken_is HNM.out HT2).mono ?_; rintro e w3 ⟨rfl, rfl⟩
  obtain ⟨⟨r0, r1, r2⟩, ⟨f0, f1, f2⟩⟩ := C2.out
  go_wp2
  (try simp only [Exit.inBlock, Exit.then])
  refine bodyPost_ret (v := .tuple #[.agg #[.string ⟨#[]⟩, .string ⟨#[]⟩, .slice none 0 0], .bool false]) (by rw [results_cell_tmp rfl]; go_simp) rfl ?_
  exact medW_none HR (below3 B2.out (Nat.le_refl _) _ _ _)
theorem mRange_4 (s x m n : ByteArray) (K : List F) (q : Bool) (w : World) (hs : s.size ≤ 65000) (H : Box (parA s.data.toList = x ∧ parB s.data.toList = K ∧ parO s.data.toList = true)) (HXM : Box (x.size ≤ maxLen)) (HMM : Box (m.size ≤ maxLen)) (HNM : Box (n.size ≤ maxLen)) (HV : Box (cutV 47 x.data.toList = .tuple #[.string m, .string n, .bool q])) (HT1 : Box (tokL m.data.toList = true)) (HT2 : Box (tokL n.data.toList = true)) (b1 b2 : Bool) (q1 : (m.toList == [42]) = b1) (q2 : (n.toList == [42]) = b2) (hb : b1 = false ∨ b2 = true) (hm4 : m.size ≤ 4294967296) (hn4 : n.size ≤ 4294967296)
    (nm sb : ByteArray) (HL1 : Box (bs (lowL m.data.toList) = nm)) (HL2 : Box (bs (lowL n.data.toList) = sb)) (HR : Box (rangeL s.data.toList = some (nm, sb, K))) :
    Calls Tryz.prog 24 #[.string s] w fun e w' => medW w w' (rangeL s.data.toList) e := by
  have q3 : (n.toList != [42]) = !b2 := by unfold bne; rw [q2]
  rcases b1 with _ | _ <;> rcases b2 with _ | _
  all_goals first | (exfalso; simp at hb; done) | skip
  all_goals
    go_enter Tryz.func24, Tryz.ntmps24
    go_wp2_with fail
    refine (mParO_is hs H).mono ?_; rintro e w1 ⟨a1, cap1, rfl, hO1, hb1⟩
    have O1 := box hO1
    have C1 := box ((C3.new (.string ⟨#[]⟩) (.string ⟨#[]⟩) (.slice none 0 0) w 33).next hb1)
    have B1 := box ((below_new w _).trans (hb1.mono (below_new w _).size))
    clear hO1 hb1
    go_wp2_with fail
    refine (Cut_any x 47 _ HXM.out).mono ?_; rintro e w2 ⟨rfl, hb2⟩; rw [HV.out]
    have O2 := box (own_below O1.out hb2)
    have C2 := box (C1.out.next hb2)
    have B2 := box (B1.out.trans (hb2.mono B1.out.size))
    clear hb2 O1 C1 B1
    go_wp2_with fail
    refine (aToken_is HMM.out HT1).mono ?_; rintro e w3 ⟨rfl, rfl⟩
    go_wp2_with fail
    refine (aToken_is HNM.out HT2).mono ?_; rintro e w3 ⟨rfl, rfl⟩
    go_wp2_with fail
    refine (aLower_is hm4 HL1).mono ?_; rintro e w4 ⟨rfl, hb4⟩
    go_wp2_with fail
    refine (aLower_is hn4 HL2).mono ?_; rintro e w5 ⟨rfl, hb5⟩
    have hb6 := hb4.trans (hb5.mono hb4.size)
    have O6 := own_below O2.out hb6
    have B6 := B2.out.trans (hb6.mono B2.out.size)
    obtain ⟨⟨r0, r1, r2⟩, ⟨f0, f1, f2⟩⟩ := C2.out.next hb6
    clear hb4 hb5 hb6
    go_wp2
    (try simp only [Exit.inBlock, Exit.then])
    refine bodyPost_ret (v := .tuple #[.agg #[.string nm, .string sb, .slice a1 K.length cap1], .bool true]) (by rw [results_cell_tmp rfl]; go_simp) rfl ?_
    exact medW_some HR (own_le (own_only O6 (only3 _ _ _ _ _) (by simp)) (by simp)) (below3 B6 (Nat.le_refl _) _ _ _)
theorem mRange_any (s : ByteArray) (w : World) (hs : s.size ≤ 65000) :
    Calls Tryz.prog 24 #[.string s] w fun e w' => medW w w' (rangeL s.data.toList) e := by
  obtain ⟨x, hx⟩ : ∃ x, parA s.data.toList = x := ⟨_, rfl⟩
  obtain ⟨K, hK⟩ : ∃ K, parB s.data.toList = K := ⟨_, rfl⟩
  have hxz : x.size ≤ 65000 := by rw [← hx]; exact Nat.le_trans (parA_size s) hs
  rcases hb : parO s.data.toList with _ | _
  · exact mRange_0 s x K w hs (box ⟨hx, hK, hb⟩) (box (range_par hb))
  · obtain ⟨m, hm⟩ : ∃ m, bs (cut1 47 x.data.toList) = m := ⟨_, rfl⟩
    obtain ⟨n, hn⟩ : ∃ n, bs (cut2 47 x.data.toList) = n := ⟨_, rfl⟩
    have HV : Box (cutV 47 x.data.toList = .tuple #[.string m, .string n, .bool (cutB 47 x.data.toList)]) := box (by unfold cutV; rw [hm, hn])
    have hxl : x.data.toList.length = x.size := by simp
    have hmz : m.size ≤ 65000 := by
      rw [← hm, bs_size]
      have : (cut1 47 x.data.toList).length ≤ x.data.toList.length := by unfold cut1; exact (List.takeWhile_sublist _).length_le
      omega
    have hnz : n.size ≤ 65000 := by
      rw [← hn, bs_size]
      have : (cut2 47 x.data.toList).length ≤ x.data.toList.length := by
        unfold cut2; rw [List.length_drop]; have := (List.dropWhile_sublist (· != (47 : UInt8)) (l := x.data.toList)).length_le; omega
      omega
    have hm1 : m.data.toList = cut1 47 x.data.toList := by rw [← hm]; rfl
    have hn1 : n.data.toList = cut2 47 x.data.toList := by rw [← hn]; rfl
    have hr := range_type hb hx
    rw [type_as, ← hm1, ← hn1, hK] at hr
    have H := box (And.intro hx (And.intro hK hb))
    have m1 : Box (x.size ≤ maxLen) := box (by unfold maxLen; omega)
    have m2 : Box (m.size ≤ maxLen) := box (by unfold maxLen; omega)
    have m3 : Box (n.size ≤ maxLen) := box (by unfold maxLen; omega)
    rcases h1 : tokL m.data.toList with _ | _
    · rw [if_pos (.inl h1)] at hr
      exact mRange_1 s x m n K _ w hs H m1 m2 m3 HV (box h1) (box hr)
    · rcases h2 : tokL n.data.toList with _ | _
      · rw [if_pos (.inr h2)] at hr
        exact mRange_2 s x m n K _ w hs H m1 m2 m3 HV (box h1) (box h2) (box hr)
      · rw [if_neg (by rw [h1, h2]; simp)] at hr
        rcases q1 : (m.toList == [42]) with _ | _
        · rw [if_neg (fun h => by have := (star_is q1).1 h.1; cases this)] at hr
          exact mRange_4 s x m n K _ w hs H m1 m2 m3 HV (box h1) (box h2) _ _ q1 rfl (.inl rfl) (by omega) (by omega) _ _ (box rfl) (box rfl) (box hr)
        · rcases q2 : (n.toList == [42]) with _ | _
          · rw [if_pos ⟨(star_is q1).2 rfl, fun h => by have := (star_is q2).1 h; cases this⟩] at hr
            exact mRange_3 s x m n K _ w hs H m1 m2 m3 HV (box h1) (box h2) q1 q2 (box hr)
          · rw [if_neg (fun h => h.2 ((star_is q2).2 rfl))] at hr
            exact mRange_4 s x m n K _ w hs H m1 m2 m3 HV (box h1) (box h2) _ _ q1 q2 (.inr rfl) (by omega) (by omega) _ _ (box rfl) (box rfl) (box hr)
theorem mRange_is {s : ByteArray} {a b : ByteArray} {L : List F} {q : Bool} {w : World} (hs : s.size ≤ 65000) (h : Box (ofM (rangeL s.data.toList) = (a, b, L) ∧ (rangeL s.data.toList).isSome = q)) :
    Calls Tryz.prog 24 #[.string s] w fun e w' => ∃ p cap, e = .returned (.tuple #[.agg #[.string a, .string b, .slice p L.length cap], .bool q]) ∧ OwnP w' w.heap.size (.slice p L.length cap) L ∧ Below w.heap.size w w' :=
  (mRange_any s w hs).mono fun e w' ⟨v, h1, h2, h3⟩ => by
    rw [h.out.1] at h1 h2
    rw [h.out.2] at h1
    obtain ⟨p, cap, rfl, _, _⟩ := h2.fs
    exact ⟨p, cap, h1, h2, h3⟩
/-- a range with a star for its type has one for its subtype -/
theorem range_stars {l : List UInt8} {a b : ByteArray} {L : List F} (h : rangeL l = some (a, b, L)) (ha : a = star) : b = star := by
  unfold rangeL at h
  split at h
  · cases h
  · rename_i v K _
    rw [type_as] at h
    split at h
    · cases h
    · rename_i x y hxy
      split at hxy
      · cases hxy
      · rename_i ht
        split at hxy
        · cases hxy
        · rename_i hs
          simp only [Option.some.injEq, Prod.mk.injEq] at hxy h
          obtain ⟨rfl, rfl⟩ := hxy
          obtain ⟨rfl, rfl, _⟩ := h
          have t1 : tokL (cut1 47 v) = true := by
            rcases q : tokL (cut1 47 v) with _ | _
            · exact absurd (.inl q) ht
            · rfl
          have e1 : lowL (cut1 47 v) = [42] := bs_inj (b := [42]) ha
          have e2 := (low_star t1).1 e1
          have e3 : cut2 47 v = [42] := by
            rcases Classical.em (cut2 47 v = [42]) with q | q
            · exact q
            · exact absurd ⟨e2, q⟩ hs
          rw [e3]; rfl
theorem media_alt (l : List UInt8) : mediaL l = if (rangeL l).isSome = true then (if (ofM (rangeL l)).2.1 = star then none else some (ofM (rangeL l))) else none := by
  rw [media_cases]
  cases h : rangeL l with
  | none => rfl
  | some x =>
    obtain ⟨a, b, L⟩ := x
    show (if a = star ∨ b = star then none else some (a, b, L)) = (if b = star then none else some (a, b, L))
    by_cases hb : b = star
    · rw [if_pos (.inr hb), if_pos hb]
    · rw [if_neg (fun q => q.elim (fun ha => hb (range_stars h ha)) hb), if_neg hb]
set_option maxHeartbeats 1000000 in
theorem mMedia_any (s : ByteArray) (w : World) (hs : s.size ≤ 65000) :
    Calls Tryz.prog 25 #[.string s] w fun e w' => medW w w' (mediaL s.data.toList) e := by
  obtain ⟨⟨a, b, L⟩, hM⟩ : ∃ m, ofM (rangeL s.data.toList) = m := ⟨_, rfl⟩
  obtain ⟨q, hq⟩ : ∃ q, (rangeL s.data.toList).isSome = q := ⟨_, rfl⟩
  have H := box (And.intro hM hq)
  have HC := media_alt s.data.toList
  rw [hM, hq] at HC
  clear hM hq
  rcases q with _ | _
  · have HR : Box (mediaL s.data.toList = none) := box (by rw [HC]; rfl)
    clear HC
    go_enter Tryz.func25, Tryz.ntmps25
    go_wp2_with fail
    refine (mRange_is hs H).mono ?_; rintro e w1 ⟨p, cap, rfl, hO1, hb1⟩
    have C1 := box (((C3.new (.string ⟨#[]⟩) (.string ⟨#[]⟩) (.slice none 0 0) w 33).next hb1).next (below_new w1 (.cells #[.string a, .string b, .slice p L.length cap] 33)))
    have B1 := box (((below_new w _).trans (hb1.mono (below_new w _).size)).alloc ((below_new w _).trans (hb1.mono (below_new w _).size)).size (.cells #[.string a, .string b, .slice p L.length cap] 33))
    have O1 := box (own_below hO1 (below_new w1 (.cells #[.string a, .string b, .slice p L.length cap] 33)))
    clear hO1 hb1
    obtain ⟨⟨r0, r1, r2⟩, ⟨f0, f1, f2⟩⟩ := C1.out
    go_wp2
    (try simp only [Exit.inBlock, Exit.then])
    refine bodyPost_ret (v := .tuple #[.agg #[.string ⟨#[]⟩, .string ⟨#[]⟩, .slice none 0 0], .bool false]) (by rw [results_cell_tmp rfl]; go_simp) rfl ?_
    exact medW_none HR (below3 B1.out (Nat.le_refl _) _ _ _)
  · rcases h2 : (b.toList == [42]) with _ | _
    · have HR : Box (mediaL s.data.toList = some (a, b, L)) := box (by
        rw [HC, if_pos rfl, if_neg (by intro e; have := (star_eq h2).mp e; simp at this)])
      clear HC
      go_enter Tryz.func25, Tryz.ntmps25
      go_wp2_with fail
      refine (mRange_is hs H).mono ?_; rintro e w1 ⟨p, cap, rfl, hO1, hb1⟩
      have C1 := box (((C3.new (.string ⟨#[]⟩) (.string ⟨#[]⟩) (.slice none 0 0) w 33).next hb1).next (below_new w1 (.cells #[.string a, .string b, .slice p L.length cap] 33)))
      have B1 := box (((below_new w _).trans (hb1.mono (below_new w _).size)).alloc ((below_new w _).trans (hb1.mono (below_new w _).size)).size (.cells #[.string a, .string b, .slice p L.length cap] 33))
      have O1 := box (own_below hO1 (below_new w1 (.cells #[.string a, .string b, .slice p L.length cap] 33)))
      clear hO1 hb1
      obtain ⟨⟨r0, r1, r2⟩, ⟨f0, f1, f2⟩⟩ := C1.out
      go_wp2
      (try simp only [Exit.inBlock, Exit.then])
      refine bodyPost_ret (v := .tuple #[.agg #[.string a, .string b, .slice p L.length cap], .bool true]) (by rw [results_cell_tmp rfl]; go_simp) rfl ?_
      exact medW_some HR (own_le (own_only O1.out (only3 _ _ _ _ _) (by simp)) (by simp)) (below3 B1.out (Nat.le_refl _) _ _ _)
    · have HR : Box (mediaL s.data.toList = none) := box (by rw [HC, if_pos rfl, if_pos ((star_eq h2).mpr rfl)])
      clear HC
      go_enter Tryz.func25, Tryz.ntmps25
      go_wp2_with fail
      refine (mRange_is hs H).mono ?_; rintro e w1 ⟨p, cap, rfl, hO1, hb1⟩
      have C1 := box (((C3.new (.string ⟨#[]⟩) (.string ⟨#[]⟩) (.slice none 0 0) w 33).next hb1).next (below_new w1 (.cells #[.string a, .string b, .slice p L.length cap] 33)))
      have B1 := box (((below_new w _).trans (hb1.mono (below_new w _).size)).alloc ((below_new w _).trans (hb1.mono (below_new w _).size)).size (.cells #[.string a, .string b, .slice p L.length cap] 33))
      have O1 := box (own_below hO1 (below_new w1 (.cells #[.string a, .string b, .slice p L.length cap] 33)))
      clear hO1 hb1
      obtain ⟨⟨r0, r1, r2⟩, ⟨f0, f1, f2⟩⟩ := C1.out
      go_wp2
      (try simp only [Exit.inBlock, Exit.then])
      refine bodyPost_ret (v := .tuple #[.agg #[.string ⟨#[]⟩, .string ⟨#[]⟩, .slice none 0 0], .bool false]) (by rw [results_cell_tmp rfl]; go_simp) rfl ?_
      exact medW_none HR (below3 B1.out (Nat.le_refl _) _ _ _)
end
end Go.Proofs.YtnpllgjkbpnimaaGreatDoor.Asc
