/- Merged texts: MsgRef4 MsgRef5 AscDec AscRDec StaFmt StaFmt2 MsgRef6. -/
import Derived.Test.YtjabcfabenobiaaGreatM02
import Derived.Test.YtjabcfabenobiaaGreatM04
import Derived.Test.YtjabcfabenobiaaGreatM07
import Derived.Test.YtjabcfabenobiaaGreatM08
import Derived.Test.YtjabcfabenobiaaGreatM09
import Derived.Laws.AppendOwnNone
set_option linter.unusedVariables false
set_option linter.unusedSimpArgs false
set_option maxRecDepth 100000
namespace Go.Proofs.YtjabcfabenobiaaGreat.Asc
section
open Go.RowKit
/-- what ParseRequest returns -/
def ReqPost (B : Nat) (o : RQ × Int × Int) (e : Ending) (w' : World) : Prop :=
  ∃ v, e = .returned (.tuple #[.agg #[.string (bs o.1.1), .string (bs o.1.2.1), .int .i64 o.1.2.2.1, v, .string (bs o.1.2.2.2.2)], .int .i64 o.2.1, .int .i64 o.2.2]) ∧ OwnF w' B v o.1.2.2.2.1
theorem rbody_is {s : ByteArray} {f : Nat} {how : Int} {o : Int ⊕ (List UInt8 × Int)} {w : World} (hs : s.size ≤ 4000000) (hf : f ≤ s.size) (hh : how = -1 ∨ (0 ≤ how ∧ how ≤ 2147483647)) (h : Box (bodyL how (s.data.toList.drop f) = o)) :
    Calls Tryz.prog 31 #[.string s, .int .i64 f, .int .i64 how] w fun e w' => e = .returned (bdV f o) ∧ Below w.heap.size w w' :=
  (rbody_any s f how w hs hf hh).mono fun e w' ⟨h1, h2⟩ => ⟨by rw [h1, h.out], h2⟩
theorem body_err {how : Int} {l : List UInt8} {e : Int} (h : bodyL how l = .inl e) : e ≠ 0 := by
  unfold bodyL at h
  split at h
  · split at h
    · rename_i q; cases h; exact q
    · cases h
  · split at h
    · cases h; decide
    · split at h
      · cases h; decide
      · cases h
theorem body_ok {how : Int} {l b : List UInt8} {c : Int} (h : bodyL how l = .inr (b, c)) (hh : how = -1 ∨ 0 ≤ how) : 0 ≤ c ∧ c ≤ l.length := by
  unfold bodyL at h
  split at h
  · split at h
    · cases h
    · cases h; exact dec_bd
  · split at h
    · cases h
    · split at h
      · cases h
      · cases h; omega
theorem sm_head {L : List F} (h : ∀ p ∈ L, p.1.size ≤ 2000 ∧ p.2.size ≤ 2000) (hl : L.length ≤ 64) : Sm L := by
  refine ⟨by omega, fun i hi => ?_⟩
  have := h _ (List.getElem_mem hi)
  omega
set_option maxRecDepth 100000 in
set_option maxHeartbeats 4000000 in
theorem rReq_bad (s : ByteArray) (w : World) (c : Int) (hs : s.size ≤ 4000000) (HL : Box (headL true s.data.toList = .inl c)) :
    Calls Tryz.prog 10 #[.string s] w fun e w' => ReqPost w.heap.size (reqM s.data.toList) e w' ∧ Below w.heap.size w w' := by
  have HE : Box (reqM s.data.toList = (zeroRQ, 0, c)) := box (by unfold reqM; rw [HL.out])
  go_enter Tryz.func10, Tryz.ntmps10
  go_wp2_with fail
  refine (rHead_any s true _ hs).mono ?_; rintro e w1 ⟨hp, hb1⟩
  rw [HL.out] at hp
  obtain ⟨rfl, hc0⟩ := hp
  have C1 := (C5.new (.string ⟨#[]⟩) (.string ⟨#[]⟩) (.int .i64 0) (.slice none 0 0) (.string ⟨#[]⟩) w 24).below hb1 (by simp)
  have BL := box ((below_new w _).trans (hb1.mono (below_new w _).size))
  have hcn : (c != 0) = true := by rw [bne_iff_ne]; exact fun e => hc0 e
  clear hb1 hc0
  unfold hdErr
  obtain ⟨⟨r0, r1, r2, r3, r4⟩, ⟨f0, f1, f2, f3, f4⟩⟩ := C1
  go_wp2
  (try simp only [Exit.inBlock, Exit.then])
  refine bodyPost_ret (v := .tuple #[.agg #[.string ⟨#[]⟩, .string ⟨#[]⟩, .int .i64 0, .slice none 0 0, .string ⟨#[]⟩], .int .i64 0, .int .i64 c]) (by rw [results_cell_tmp2 rfl]; go_simp) rfl ⟨?_, ?_⟩
  · rw [HE.out]
    exact ⟨_, rfl, OwnF.nil _ _⟩
  · exact below5 BL.out (Nat.le_refl _) _ _ _ _ _
set_option maxRecDepth 100000 in
set_option maxHeartbeats 4000000 in
theorem rReq_fr (s : ByteArray) (w : World) (hs : s.size ≤ 4000000) (st r m t : List UInt8) (L : List F) (n : Nat) (mi how : Int) (HL : Box (headL true s.data.toList = .inr (st, L, n, r))) (hsl : st.length ≤ 2000) (HQ : Box (reqL st = (m, t, mi, 0))) (S : Box (Sm L)) (hlen : L.length ≤ 65536) (hns : n ≤ s.size) (e0 : Int) (HFR : Box (framedL L = (how, e0))) (he : (e0 != 0) = true) (HE : Box (reqM s.data.toList = (zeroRQ, 0, e0))) :
    Calls Tryz.prog 10 #[.string s] w fun e w' => ReqPost w.heap.size (reqM s.data.toList) e w' ∧ Below w.heap.size w w' := by
  go_enter Tryz.func10, Tryz.ntmps10
  go_wp2_with fail
  refine (rHead_any s true _ hs).mono ?_; rintro e w1 ⟨hp, hb1⟩
  rw [HL.out] at hp
  obtain ⟨v1, rfl, hO1⟩ := hp
  obtain ⟨a1, cap1, rfl, hF1, _⟩ := hO1.fs
  have C1 := box ((C5.new (.string ⟨#[]⟩) (.string ⟨#[]⟩) (.int .i64 0) (.slice none 0 0) (.string ⟨#[]⟩) w 24).below hb1 (by simp))
  have B1 := box ((below_new w _).trans (hb1.mono (below_new w _).size))
  have F1 := box hF1
  clear hb1 hO1 hF1
  go_wp2_with fail
  refine (rPReq_is hsl HQ).mono ?_; rintro e w2 ⟨rfl, hb2⟩
  have C2 := box (C1.out.next hb2)
  have B2 := box (B1.out.trans (hb2.mono B1.out.size))
  have F2 := box (F1.out.below hb2)
  clear hb2
  go_wp2_with fail
  refine (rframed_any a1 cap1 L _ hlen S F2).mono ?_; rintro e w3 ⟨rfl, hb3⟩
  rw [HFR.out]
  unfold frV
  have C3 := box (C2.out.next hb3)
  have B3 := box (B2.out.trans (hb3.mono B2.out.size))
  have F3 := box (F2.out.below hb3)
  clear hb3
  obtain ⟨⟨r0, r1, r2, r3, r4⟩, ⟨f0, f1, f2, f3, f4⟩⟩ := C3.out
  go_wp2
  (try simp only [Exit.inBlock, Exit.then])
  refine bodyPost_ret (v := .tuple #[.agg #[.string ⟨#[]⟩, .string ⟨#[]⟩, .int .i64 0, .slice none 0 0, .string ⟨#[]⟩], .int .i64 0, .int .i64 e0]) (by rw [results_cell_tmp2 rfl]; go_simp) rfl ⟨?_, ?_⟩
  · rw [HE.out]
    exact ⟨_, rfl, OwnF.nil _ _⟩
  · exact below5 B3.out (Nat.le_refl _) _ _ _ _ _
set_option maxRecDepth 100000 in
set_option maxHeartbeats 4000000 in
theorem rReq_host (s : ByteArray) (w : World) (hs : s.size ≤ 4000000) (st r m t : List UInt8) (L : List F) (n : Nat) (mi how : Int) (HL : Box (headL true s.data.toList = .inr (st, L, n, r))) (hsl : st.length ≤ 2000) (HQ : Box (reqL st = (m, t, mi, 0))) (S : Box (Sm L)) (hlen : L.length ≤ 65536) (hns : n ≤ s.size) (gl : Nat) (HG : Box ((getL hostN L).length = gl)) (HFR : Box (framedL L = (how, 0))) (hg : 1 < gl ∨ (gl = 0 ∧ mi = 1)) (HE : Box (reqM s.data.toList = (zeroRQ, 0, 6))) :
    Calls Tryz.prog 10 #[.string s] w fun e w' => ReqPost w.heap.size (reqM s.data.toList) e w' ∧ Below w.heap.size w w' := by
  rcases hg with hg | ⟨rfl, rfl⟩
  · have hgi : (1 : Int) < (gl : Int) := by omega
    go_enter Tryz.func10, Tryz.ntmps10
    go_wp2_with fail
    refine (rHead_any s true _ hs).mono ?_; rintro e w1 ⟨hp, hb1⟩
    rw [HL.out] at hp
    obtain ⟨v1, rfl, hO1⟩ := hp
    obtain ⟨a1, cap1, rfl, hF1, _⟩ := hO1.fs
    have C1 := box ((C5.new (.string ⟨#[]⟩) (.string ⟨#[]⟩) (.int .i64 0) (.slice none 0 0) (.string ⟨#[]⟩) w 24).below hb1 (by simp))
    have B1 := box ((below_new w _).trans (hb1.mono (below_new w _).size))
    have F1 := box hF1
    clear hb1 hO1 hF1
    go_wp2_with fail
    refine (rPReq_is hsl HQ).mono ?_; rintro e w2 ⟨rfl, hb2⟩
    have C2 := box (C1.out.next hb2)
    have B2 := box (B1.out.trans (hb2.mono B1.out.size))
    have F2 := box (F1.out.below hb2)
    clear hb2
    go_wp2_with fail
    refine (rframed_any a1 cap1 L _ hlen S F2).mono ?_; rintro e w3 ⟨rfl, hb3⟩
    rw [HFR.out]
    unfold frV
    have C3 := box (C2.out.next hb3)
    have B3 := box (B2.out.trans (hb3.mono B2.out.size))
    have F3 := box (F2.out.below hb3)
    clear hb3
    go_wp2_with fail
    refine (rGet_any a1 cap1 L hostN _ hlen S (box (by decide)) F3).mono ?_; rintro e w4 ⟨v4, rfl, hO4, hb4⟩
    obtain ⟨a4, cap4, rfl, _, _⟩ := hO4.ss
    have C4 := box (C3.out.next hb4)
    have B4 := box (B3.out.trans (hb4.mono B3.out.size))
    have F4 := box (F3.out.below hb4)
    clear hb4 hO4
    rw [HG.out]
    obtain ⟨⟨r0, r1, r2, r3, r4⟩, ⟨f0, f1, f2, f3, f4⟩⟩ := C4.out
    go_wp2
    (try simp only [Exit.inBlock, Exit.then])
    refine bodyPost_ret (v := .tuple #[.agg #[.string ⟨#[]⟩, .string ⟨#[]⟩, .int .i64 0, .slice none 0 0, .string ⟨#[]⟩], .int .i64 0, .int .i64 6]) (by rw [results_cell_tmp2 rfl]; go_simp) rfl ⟨?_, ?_⟩
    · rw [HE.out]
      exact ⟨_, rfl, OwnF.nil _ _⟩
    · exact below5 B4.out (Nat.le_refl _) _ _ _ _ _
  · skip
    go_enter Tryz.func10, Tryz.ntmps10
    go_wp2_with fail
    refine (rHead_any s true _ hs).mono ?_; rintro e w1 ⟨hp, hb1⟩
    rw [HL.out] at hp
    obtain ⟨v1, rfl, hO1⟩ := hp
    obtain ⟨a1, cap1, rfl, hF1, _⟩ := hO1.fs
    have C1 := box ((C5.new (.string ⟨#[]⟩) (.string ⟨#[]⟩) (.int .i64 0) (.slice none 0 0) (.string ⟨#[]⟩) w 24).below hb1 (by simp))
    have B1 := box ((below_new w _).trans (hb1.mono (below_new w _).size))
    have F1 := box hF1
    clear hb1 hO1 hF1
    go_wp2_with fail
    refine (rPReq_is hsl HQ).mono ?_; rintro e w2 ⟨rfl, hb2⟩
    have C2 := box (C1.out.next hb2)
    have B2 := box (B1.out.trans (hb2.mono B1.out.size))
    have F2 := box (F1.out.below hb2)
    clear hb2
    go_wp2_with fail
    refine (rframed_any a1 cap1 L _ hlen S F2).mono ?_; rintro e w3 ⟨rfl, hb3⟩
    rw [HFR.out]
    unfold frV
    have C3 := box (C2.out.next hb3)
    have B3 := box (B2.out.trans (hb3.mono B2.out.size))
    have F3 := box (F2.out.below hb3)
    clear hb3
    go_wp2_with fail
    refine (rGet_any a1 cap1 L hostN _ hlen S (box (by decide)) F3).mono ?_; rintro e w4 ⟨v4, rfl, hO4, hb4⟩
    obtain ⟨a4, cap4, rfl, _, _⟩ := hO4.ss
    have C4 := box (C3.out.next hb4)
    have B4 := box (B3.out.trans (hb4.mono B3.out.size))
    have F4 := box (F3.out.below hb4)
    clear hb4 hO4
    rw [HG.out]
    obtain ⟨⟨r0, r1, r2, r3, r4⟩, ⟨f0, f1, f2, f3, f4⟩⟩ := C4.out
    go_wp2
    (try simp only [Exit.inBlock, Exit.then])
    refine bodyPost_ret (v := .tuple #[.agg #[.string ⟨#[]⟩, .string ⟨#[]⟩, .int .i64 0, .slice none 0 0, .string ⟨#[]⟩], .int .i64 0, .int .i64 6]) (by rw [results_cell_tmp2 rfl]; go_simp) rfl ⟨?_, ?_⟩
    · rw [HE.out]
      exact ⟨_, rfl, OwnF.nil _ _⟩
    · exact below5 B4.out (Nat.le_refl _) _ _ _ _ _
set_option maxRecDepth 100000 in
set_option maxHeartbeats 4000000 in
theorem rReq_body (s : ByteArray) (w : World) (hs : s.size ≤ 4000000) (st r m t : List UInt8) (L : List F) (n : Nat) (mi how : Int) (HL : Box (headL true s.data.toList = .inr (st, L, n, r))) (hsl : st.length ≤ 2000) (HQ : Box (reqL st = (m, t, mi, 0))) (S : Box (Sm L)) (hlen : L.length ≤ 65536) (hns : n ≤ s.size) (h2 : Int) (hhow : (how = -2 ∧ h2 = 0) ∨ (how ≠ -2 ∧ h2 = how)) (hh : h2 = -1 ∨ (0 ≤ h2 ∧ h2 ≤ 2147483647)) (gl : Nat) (HG : Box ((getL hostN L).length = gl)) (HFR : Box (framedL L = (how, 0))) (hg : ¬ 1 < gl) (hg2 : gl = 0 → mi ≠ 1) (e0 : Int) (HB : Box (bodyL h2 (s.data.toList.drop n) = .inl e0)) (he : (e0 != 0) = true) (HE : Box (reqM s.data.toList = (zeroRQ, 0, e0))) :
    Calls Tryz.prog 10 #[.string s] w fun e w' => ReqPost w.heap.size (reqM s.data.toList) e w' ∧ Below w.heap.size w w' := by
  have hgi : ¬ (1 : Int) < (gl : Int) := by omega
  have hg3 : ((gl : Int) == 0) = false ∨ (((gl : Int) == 0) = true ∧ (mi == 1) = false) := by
    rcases Nat.eq_zero_or_pos gl with q | q
    · right; refine ⟨by rw [q]; rfl, ?_⟩; rw [beq_eq_false_iff_ne]; exact hg2 q
    · left; rw [beq_eq_false_iff_ne]; omega
  clear hg hg2
  rcases hhow with ⟨rfl, rfl⟩ | ⟨hh2, rfl⟩
  · rcases hg3 with hg3 | ⟨hg3, hg4⟩
    all_goals
      go_enter Tryz.func10, Tryz.ntmps10
      go_wp2_with fail
      refine (rHead_any s true _ hs).mono ?_; rintro e w1 ⟨hp, hb1⟩
      rw [HL.out] at hp
      obtain ⟨v1, rfl, hO1⟩ := hp
      obtain ⟨a1, cap1, rfl, hF1, _⟩ := hO1.fs
      have C1 := box ((C5.new (.string ⟨#[]⟩) (.string ⟨#[]⟩) (.int .i64 0) (.slice none 0 0) (.string ⟨#[]⟩) w 24).below hb1 (by simp))
      have B1 := box ((below_new w _).trans (hb1.mono (below_new w _).size))
      have F1 := box hF1
      clear hb1 hO1 hF1
      go_wp2_with fail
      refine (rPReq_is hsl HQ).mono ?_; rintro e w2 ⟨rfl, hb2⟩
      have C2 := box (C1.out.next hb2)
      have B2 := box (B1.out.trans (hb2.mono B1.out.size))
      have F2 := box (F1.out.below hb2)
      clear hb2
      go_wp2_with fail
      refine (rframed_any a1 cap1 L _ hlen S F2).mono ?_; rintro e w3 ⟨rfl, hb3⟩
      rw [HFR.out]
      unfold frV
      have C3 := box (C2.out.next hb3)
      have B3 := box (B2.out.trans (hb3.mono B2.out.size))
      have F3 := box (F2.out.below hb3)
      clear hb3
      go_wp2_with fail
      refine (rGet_any a1 cap1 L hostN _ hlen S (box (by decide)) F3).mono ?_; rintro e w4 ⟨v4, rfl, hO4, hb4⟩
      obtain ⟨a4, cap4, rfl, _, _⟩ := hO4.ss
      have C4 := box (C3.out.next hb4)
      have B4 := box (B3.out.trans (hb4.mono B3.out.size))
      have F4 := box (F3.out.below hb4)
      clear hb4 hO4
      rw [HG.out]
      go_wp2_with fail
      refine (rbody_is hs hns hh HB).mono ?_; rintro e w5 ⟨rfl, hb5⟩
      have C5' := box (C4.out.next hb5)
      have B5 := box (B4.out.trans (hb5.mono B4.out.size))
      have F5 := box (F4.out.below hb5)
      clear hb5
      unfold bdV
      obtain ⟨⟨r0, r1, r2, r3, r4⟩, ⟨f0, f1, f2, f3, f4⟩⟩ := C5'.out
      go_wp2
      (try simp only [Exit.inBlock, Exit.then])
      refine bodyPost_ret (v := .tuple #[.agg #[.string ⟨#[]⟩, .string ⟨#[]⟩, .int .i64 0, .slice none 0 0, .string ⟨#[]⟩], .int .i64 0, .int .i64 e0]) (by rw [results_cell_tmp2 rfl]; go_simp) rfl ⟨?_, ?_⟩
      · rw [HE.out]
        exact ⟨_, rfl, OwnF.nil _ _⟩
      · exact below5 B5.out (Nat.le_refl _) _ _ _ _ _
  · have hh3 : (h2 == -2) = false := by rw [beq_eq_false_iff_ne]; exact hh2
    rcases hg3 with hg3 | ⟨hg3, hg4⟩
    all_goals
      go_enter Tryz.func10, Tryz.ntmps10
      go_wp2_with fail
      refine (rHead_any s true _ hs).mono ?_; rintro e w1 ⟨hp, hb1⟩
      rw [HL.out] at hp
      obtain ⟨v1, rfl, hO1⟩ := hp
      obtain ⟨a1, cap1, rfl, hF1, _⟩ := hO1.fs
      have C1 := box ((C5.new (.string ⟨#[]⟩) (.string ⟨#[]⟩) (.int .i64 0) (.slice none 0 0) (.string ⟨#[]⟩) w 24).below hb1 (by simp))
      have B1 := box ((below_new w _).trans (hb1.mono (below_new w _).size))
      have F1 := box hF1
      clear hb1 hO1 hF1
      go_wp2_with fail
      refine (rPReq_is hsl HQ).mono ?_; rintro e w2 ⟨rfl, hb2⟩
      have C2 := box (C1.out.next hb2)
      have B2 := box (B1.out.trans (hb2.mono B1.out.size))
      have F2 := box (F1.out.below hb2)
      clear hb2
      go_wp2_with fail
      refine (rframed_any a1 cap1 L _ hlen S F2).mono ?_; rintro e w3 ⟨rfl, hb3⟩
      rw [HFR.out]
      unfold frV
      have C3 := box (C2.out.next hb3)
      have B3 := box (B2.out.trans (hb3.mono B2.out.size))
      have F3 := box (F2.out.below hb3)
      clear hb3
      go_wp2_with fail
      refine (rGet_any a1 cap1 L hostN _ hlen S (box (by decide)) F3).mono ?_; rintro e w4 ⟨v4, rfl, hO4, hb4⟩
      obtain ⟨a4, cap4, rfl, _, _⟩ := hO4.ss
      have C4 := box (C3.out.next hb4)
      have B4 := box (B3.out.trans (hb4.mono B3.out.size))
      have F4 := box (F3.out.below hb4)
      clear hb4 hO4
      rw [HG.out]
      go_wp2_with fail
      refine (rbody_is hs hns hh HB).mono ?_; rintro e w5 ⟨rfl, hb5⟩
      have C5' := box (C4.out.next hb5)
      have B5 := box (B4.out.trans (hb5.mono B4.out.size))
      have F5 := box (F4.out.below hb5)
      clear hb5
      unfold bdV
      obtain ⟨⟨r0, r1, r2, r3, r4⟩, ⟨f0, f1, f2, f3, f4⟩⟩ := C5'.out
      go_wp2
      (try simp only [Exit.inBlock, Exit.then])
      refine bodyPost_ret (v := .tuple #[.agg #[.string ⟨#[]⟩, .string ⟨#[]⟩, .int .i64 0, .slice none 0 0, .string ⟨#[]⟩], .int .i64 0, .int .i64 e0]) (by rw [results_cell_tmp2 rfl]; go_simp) rfl ⟨?_, ?_⟩
      · rw [HE.out]
        exact ⟨_, rfl, OwnF.nil _ _⟩
      · exact below5 B5.out (Nat.le_refl _) _ _ _ _ _
set_option maxRecDepth 100000 in
set_option maxHeartbeats 4000000 in
theorem rReq_ok (s : ByteArray) (w : World) (hs : s.size ≤ 4000000) (st r m t : List UInt8) (L : List F) (n : Nat) (mi how : Int) (HL : Box (headL true s.data.toList = .inr (st, L, n, r))) (hsl : st.length ≤ 2000) (HQ : Box (reqL st = (m, t, mi, 0))) (S : Box (Sm L)) (hlen : L.length ≤ 65536) (hns : n ≤ s.size) (h2 : Int) (hhow : (how = -2 ∧ h2 = 0) ∨ (how ≠ -2 ∧ h2 = how)) (hh : h2 = -1 ∨ (0 ≤ h2 ∧ h2 ≤ 2147483647)) (gl : Nat) (HG : Box ((getL hostN L).length = gl)) (HFR : Box (framedL L = (how, 0))) (hg : ¬ 1 < gl) (hg2 : gl = 0 → mi ≠ 1) (b : List UInt8) (c : Int) (hc : 0 ≤ c ∧ c ≤ 4000000) (HB : Box (bodyL h2 (s.data.toList.drop n) = .inr (b, c))) (HE : Box (reqM s.data.toList = ((m, t, mi, unfrL L, b), (n : Int) + c, 0))) :
    Calls Tryz.prog 10 #[.string s] w fun e w' => ReqPost w.heap.size (reqM s.data.toList) e w' ∧ Below w.heap.size w w' := by
  obtain ⟨hc0, hc1⟩ := hc
  have hgi : ¬ (1 : Int) < (gl : Int) := by omega
  have hg3 : ((gl : Int) == 0) = false ∨ (((gl : Int) == 0) = true ∧ (mi == 1) = false) := by
    rcases Nat.eq_zero_or_pos gl with q | q
    · right; refine ⟨by rw [q]; rfl, ?_⟩; rw [beq_eq_false_iff_ne]; exact hg2 q
    · left; rw [beq_eq_false_iff_ne]; omega
  clear hg hg2
  rcases hhow with ⟨rfl, rfl⟩ | ⟨hh2, rfl⟩
  · rcases hg3 with hg3 | ⟨hg3, hg4⟩
    all_goals
      go_enter Tryz.func10, Tryz.ntmps10
      go_wp2_with fail
      refine (rHead_any s true _ hs).mono ?_; rintro e w1 ⟨hp, hb1⟩
      rw [HL.out] at hp
      obtain ⟨v1, rfl, hO1⟩ := hp
      obtain ⟨a1, cap1, rfl, hF1, _⟩ := hO1.fs
      have C1 := box ((C5.new (.string ⟨#[]⟩) (.string ⟨#[]⟩) (.int .i64 0) (.slice none 0 0) (.string ⟨#[]⟩) w 24).below hb1 (by simp))
      have B1 := box ((below_new w _).trans (hb1.mono (below_new w _).size))
      have F1 := box hF1
      clear hb1 hO1 hF1
      go_wp2_with fail
      refine (rPReq_is hsl HQ).mono ?_; rintro e w2 ⟨rfl, hb2⟩
      have C2 := box (C1.out.next hb2)
      have B2 := box (B1.out.trans (hb2.mono B1.out.size))
      have F2 := box (F1.out.below hb2)
      clear hb2
      go_wp2_with fail
      refine (rframed_any a1 cap1 L _ hlen S F2).mono ?_; rintro e w3 ⟨rfl, hb3⟩
      rw [HFR.out]
      unfold frV
      have C3 := box (C2.out.next hb3)
      have B3 := box (B2.out.trans (hb3.mono B2.out.size))
      have F3 := box (F2.out.below hb3)
      clear hb3
      go_wp2_with fail
      refine (rGet_any a1 cap1 L hostN _ hlen S (box (by decide)) F3).mono ?_; rintro e w4 ⟨v4, rfl, hO4, hb4⟩
      obtain ⟨a4, cap4, rfl, _, _⟩ := hO4.ss
      have C4 := box (C3.out.next hb4)
      have B4 := box (B3.out.trans (hb4.mono B3.out.size))
      have F4 := box (F3.out.below hb4)
      clear hb4 hO4
      rw [HG.out]
      go_wp2_with fail
      refine (rbody_is hs hns hh HB).mono ?_; rintro e w5 ⟨rfl, hb5⟩
      have C5' := box (C4.out.next hb5)
      have B5 := box (B4.out.trans (hb5.mono B4.out.size))
      have F5 := box (F4.out.below hb5)
      clear hb5
      unfold bdV
      go_wp2_with fail
      refine (rUnframed_any a1 cap1 L _ S F5).mono ?_; rintro e w6 ⟨v6, rfl, hO6, hb6⟩
      obtain ⟨a6, cap6, rfl, _, _⟩ := hO6.fs
      have C6 := box (C5'.out.next hb6)
      have B6 := box (B5.out.trans (hb6.mono B5.out.size))
      have hgs := C5'.out.lt
      have O6 := box (own_le (own_only hO6 (only5 w.heap.size w6 (.string (bs m)) (.string (bs t)) (.int .i64 mi) (.slice a6 (unfrL L).length cap6) (.string (bs b))) hgs) B5.out.size)
      clear hb6 hO6 hgs
      obtain ⟨⟨r0, r1, r2, r3, r4⟩, ⟨f0, f1, f2, f3, f4⟩⟩ := C6.out
      go_wp2
      (try simp only [Exit.inBlock, Exit.then])
      refine bodyPost_ret (v := .tuple #[.agg #[.string (bs m), .string (bs t), .int .i64 mi, .slice a6 (unfrL L).length cap6, .string (bs b)], .int .i64 ((n : Int) + c), .int .i64 0]) (by rw [results_cell_tmp2 rfl]; go_simp) rfl ⟨?_, ?_⟩
      · rw [HE.out]
        exact ⟨_, rfl, O6.out⟩
      · exact below5 B6.out (Nat.le_refl _) _ _ _ _ _
  · have hh3 : (h2 == -2) = false := by rw [beq_eq_false_iff_ne]; exact hh2
    rcases hg3 with hg3 | ⟨hg3, hg4⟩
    all_goals
      go_enter Tryz.func10, Tryz.ntmps10
      go_wp2_with fail
      refine (rHead_any s true _ hs).mono ?_; rintro e w1 ⟨hp, hb1⟩
      rw [HL.out] at hp
      obtain ⟨v1, rfl, hO1⟩ := hp
      obtain ⟨a1, cap1, rfl, hF1, _⟩ := hO1.fs
      have C1 := box ((C5.new (.string ⟨#[]⟩) (.string ⟨#[]⟩) (.int .i64 0) (.slice none 0 0) (.string ⟨#[]⟩) w 24).below hb1 (by simp))
      have B1 := box ((below_new w _).trans (hb1.mono (below_new w _).size))
      have F1 := box hF1
      clear hb1 hO1 hF1
      go_wp2_with fail
      refine (rPReq_is hsl HQ).mono ?_; rintro e w2 ⟨rfl, hb2⟩
      have C2 := box (C1.out.next hb2)
      have B2 := box (B1.out.trans (hb2.mono B1.out.size))
      have F2 := box (F1.out.below hb2)
      clear hb2
      go_wp2_with fail
      refine (rframed_any a1 cap1 L _ hlen S F2).mono ?_; rintro e w3 ⟨rfl, hb3⟩
      rw [HFR.out]
      unfold frV
      have C3 := box (C2.out.next hb3)
      have B3 := box (B2.out.trans (hb3.mono B2.out.size))
      have F3 := box (F2.out.below hb3)
      clear hb3
      go_wp2_with fail
      refine (rGet_any a1 cap1 L hostN _ hlen S (box (by decide)) F3).mono ?_; rintro e w4 ⟨v4, rfl, hO4, hb4⟩
      obtain ⟨a4, cap4, rfl, _, _⟩ := hO4.ss
      have C4 := box (C3.out.next hb4)
      have B4 := box (B3.out.trans (hb4.mono B3.out.size))
      have F4 := box (F3.out.below hb4)
      clear hb4 hO4
      rw [HG.out]
      go_wp2_with fail
      refine (rbody_is hs hns hh HB).mono ?_; rintro e w5 ⟨rfl, hb5⟩
      have C5' := box (C4.out.next hb5)
      have B5 := box (B4.out.trans (hb5.mono B4.out.size))
      have F5 := box (F4.out.below hb5)
      clear hb5
      unfold bdV
      go_wp2_with fail
      refine (rUnframed_any a1 cap1 L _ S F5).mono ?_; rintro e w6 ⟨v6, rfl, hO6, hb6⟩
      obtain ⟨a6, cap6, rfl, _, _⟩ := hO6.fs
      have C6 := box (C5'.out.next hb6)
      have B6 := box (B5.out.trans (hb6.mono B5.out.size))
      have hgs := C5'.out.lt
      have O6 := box (own_le (own_only hO6 (only5 w.heap.size w6 (.string (bs m)) (.string (bs t)) (.int .i64 mi) (.slice a6 (unfrL L).length cap6) (.string (bs b))) hgs) B5.out.size)
      clear hb6 hO6 hgs
      obtain ⟨⟨r0, r1, r2, r3, r4⟩, ⟨f0, f1, f2, f3, f4⟩⟩ := C6.out
      go_wp2
      (try simp only [Exit.inBlock, Exit.then])
      refine bodyPost_ret (v := .tuple #[.agg #[.string (bs m), .string (bs t), .int .i64 mi, .slice a6 (unfrL L).length cap6, .string (bs b)], .int .i64 ((n : Int) + c), .int .i64 0]) (by rw [results_cell_tmp2 rfl]; go_simp) rfl ⟨?_, ?_⟩
      · rw [HE.out]
        exact ⟨_, rfl, O6.out⟩
      · exact below5 B6.out (Nat.le_refl _) _ _ _ _ _
theorem rRequest_any (s : ByteArray) (w : World) (hs : s.size ≤ 4000000) :
    Calls Tryz.prog 10 #[.string s] w fun e w' => ReqPost w.heap.size (reqM s.data.toList) e w' ∧ Below w.heap.size w w' := by
  rcases hh : headL true s.data.toList with c | ⟨st, L, n, r⟩
  · exact rReq_bad s w c hs (box hh)
  · have ok := headL_ok hh
    obtain ⟨m, t, mi, e1, hq⟩ : ∃ m t mi e1, reqL st = (m, t, mi, e1) := ⟨_, _, _, _, rfl⟩
    have he1 : e1 = 0 := by
      have := ok.start
      unfold startE at this
      rw [if_pos rfl, hq] at this; exact this
    subst he1
    have hz : s.data.toList.length = s.size := by simp
    have S := sm_head ok.small ok.few
    have hns : n ≤ s.size := by have := ok.most; omega
    have hr : r = s.data.toList.drop n := by have := ok.rest; simpa using this
    obtain ⟨how, e0, hf⟩ : ∃ how e0, framedL L = (how, e0) := ⟨_, _, rfl⟩
    have hfc := fr_cases L
    rw [hf] at hfc
    simp only at hfc
    by_cases he0 : e0 = 0
    · subst he0
      have hhow := (hfc.resolve_left (by simp)).2
      obtain ⟨gl, hgl⟩ : ∃ gl, (getL hostN L).length = gl := ⟨_, rfl⟩
      by_cases hho : 1 < gl ∨ (gl = 0 ∧ mi = 1)
      · refine rReq_host s w hs st r m t L n mi how (box hh) ok.slen (box hq) (box S) (by have := ok.few; omega) hns gl (box hgl) (box hf) hho (box ?_)
        unfold reqM
        rw [hh]
        simp only [hf, hq]
        rw [if_neg (by simp), if_pos]
        unfold hostE
        rw [hgl]; exact decide_eq_true hho
      · obtain ⟨h2, hh2⟩ : ∃ h2, (if how = -2 then 0 else how) = h2 := ⟨_, rfl⟩
        have hw : (how = -2 ∧ h2 = 0) ∨ (how ≠ -2 ∧ h2 = how) := by
          rw [← hh2]; by_cases q : how = -2
          · left; exact ⟨q, by rw [if_pos q]⟩
          · right; exact ⟨q, by rw [if_neg q]⟩
        have hb2 : h2 = -1 ∨ (0 ≤ h2 ∧ h2 ≤ 2147483647) := by omega
        have key : ∀ x, bodyL h2 (s.data.toList.drop n) = x → reqM s.data.toList = match x with | .inl e => (zeroRQ, 0, e) | .inr (b, c) => ((m, t, mi, unfrL L, b), (n : Int) + c, 0) := by
          intro x hx
          unfold reqM
          rw [hh]
          simp only [hf, hq, hh2]
          have hho2 : ¬ hostE L mi = true := by unfold hostE; rw [hgl, decide_eq_false hho]; simp
          rw [if_neg (by simp), if_neg hho2, hr, hx]
          rcases x with e | ⟨b, c⟩ <;> rfl
        rcases hb : bodyL h2 (s.data.toList.drop n) with e2 | ⟨b, c⟩
        · exact rReq_body s w hs st r m t L n mi how (box hh) ok.slen (box hq) (box S) (by have := ok.few; omega) hns h2 hw hb2 gl (box hgl) (box hf) (by omega) (by omega) e2 (box hb) (by rw [bne_iff_ne]; exact body_err hb) (box (key _ hb))
        · have hc := body_ok hb (by omega)
          rw [List.length_drop, hz] at hc
          exact rReq_ok s w hs st r m t L n mi how (box hh) ok.slen (box hq) (box S) (by have := ok.few; omega) hns h2 hw hb2 gl (box hgl) (box hf) (by omega) (by omega) b c (by omega) (box hb) (box (key _ hb))
    · refine rReq_fr s w hs st r m t L n mi how (box hh) ok.slen (box hq) (box S) (by have := ok.few; omega) hns e0 (box hf) (by rw [bne_iff_ne]; exact he0) (box ?_)
      unfold reqM
      rw [hh]
      simp only [hf]
      rw [if_pos he0]
end
section
open Go.RowKit
/-- what ParseResponse returns -/
def ResPost (B : Nat) (o : RS × Int × Int) (e : Ending) (w' : World) : Prop :=
  ∃ v, e = .returned (.tuple #[.agg #[.int .i64 o.1.1, .int .i64 o.1.2.1, .string (bs o.1.2.2.1), v, .string (bs o.1.2.2.2.2)], .int .i64 o.2.1, .int .i64 o.2.2]) ∧ OwnF w' B v o.1.2.2.2.1
theorem rBodil_is {n : Int} {m : ByteArray} {b : Bool} {w : World} (hm : m.size ≤ 65536) (h : Box (bodilessL n m.data.toList = b)) :
    Calls Tryz.prog 23 #[.int .i64 n, .string m] w fun e w' => e = .returned (.bool b) ∧ w = w' :=
  (rBodiless_any n m w hm).mono fun e w' ⟨h1, h2⟩ => ⟨by rw [h1, h.out], h2⟩
set_option maxRecDepth 100000 in
set_option maxHeartbeats 4000000 in
theorem rRes_bad (s me : ByteArray) (cl : Bool) (w : World) (c : Int) (hs : s.size ≤ 4000000) (HL : Box (headL false s.data.toList = .inl c)) :
    Calls Tryz.prog 14 #[.string s, .string me, .bool cl] w fun e w' => ResPost w.heap.size (resM s.data.toList me.data.toList cl) e w' ∧ Below w.heap.size w w' := by
  have HE : Box (resM s.data.toList me.data.toList cl = (zeroRS, 0, c)) := box (by unfold resM; rw [HL.out])
  go_enter Tryz.func14, Tryz.ntmps14
  go_wp2_with fail
  refine (rHead_any s false _ hs).mono ?_; rintro e w1 ⟨hp, hb1⟩
  rw [HL.out] at hp
  obtain ⟨rfl, hc0⟩ := hp
  have C1 := (C5.new (.int .i64 0) (.int .i64 0) (.string ⟨#[]⟩) (.slice none 0 0) (.string ⟨#[]⟩) w 32).below hb1 (by simp)
  have BL := box ((below_new w _).trans (hb1.mono (below_new w _).size))
  have hcn : (c != 0) = true := by rw [bne_iff_ne]; exact fun e => hc0 e
  clear hb1 hc0
  unfold hdErr
  obtain ⟨⟨r0, r1, r2, r3, r4⟩, ⟨f0, f1, f2, f3, f4⟩⟩ := C1
  go_wp2
  (try simp only [Exit.inBlock, Exit.then])
  refine bodyPost_ret (v := .tuple #[.agg #[.int .i64 0, .int .i64 0, .string ⟨#[]⟩, .slice none 0 0, .string ⟨#[]⟩], .int .i64 0, .int .i64 c]) (by rw [results_cell_tmp2 rfl]; go_simp) rfl ⟨?_, ?_⟩
  · rw [HE.out]
    exact ⟨_, rfl, OwnF.nil _ _⟩
  · exact below5 BL.out (Nat.le_refl _) _ _ _ _ _
set_option maxRecDepth 100000 in
set_option maxHeartbeats 4000000 in
theorem rRes_fr (s me : ByteArray) (cl : Bool) (w : World) (hs : s.size ≤ 4000000) (hm : me.size ≤ 65536) (st r t : List UInt8) (L : List F) (n : Nat) (mi sc how : Int) (HL : Box (headL false s.data.toList = .inr (st, L, n, r))) (hsl : st.length ≤ 2000) (HQ : Box (staL st = (mi, sc, t, 0))) (S : Box (Sm L)) (hlen : L.length ≤ 65536) (hns : n ≤ s.size) (e0 : Int) (HFR : Box (framedL L = (how, e0))) (he : (e0 != 0) = true) (HE : Box (resM s.data.toList me.data.toList cl = (zeroRS, 0, e0))) :
    Calls Tryz.prog 14 #[.string s, .string me, .bool cl] w fun e w' => ResPost w.heap.size (resM s.data.toList me.data.toList cl) e w' ∧ Below w.heap.size w w' := by
  go_enter Tryz.func14, Tryz.ntmps14
  go_wp2_with fail
  refine (rHead_any s false _ hs).mono ?_; rintro e w1 ⟨hp, hb1⟩
  rw [HL.out] at hp
  obtain ⟨v1, rfl, hO1⟩ := hp
  obtain ⟨a1, cap1, rfl, hF1, _⟩ := hO1.fs
  have C1 := box ((C5.new (.int .i64 0) (.int .i64 0) (.string ⟨#[]⟩) (.slice none 0 0) (.string ⟨#[]⟩) w 32).below hb1 (by simp))
  have B1 := box ((below_new w _).trans (hb1.mono (below_new w _).size))
  have F1 := box hF1
  clear hb1 hO1 hF1
  go_wp2_with fail
  refine (rPSta_is hsl HQ).mono ?_; rintro e w2 ⟨rfl, hb2⟩
  have C2 := box (C1.out.next hb2)
  have B2 := box (B1.out.trans (hb2.mono B1.out.size))
  have F2 := box (F1.out.below hb2)
  clear hb2
  go_wp2_with fail
  refine (rframed_any a1 cap1 L _ hlen S F2).mono ?_; rintro e w3 ⟨rfl, hb3⟩
  rw [HFR.out]
  unfold frV
  have C3 := box (C2.out.next hb3)
  have B3 := box (B2.out.trans (hb3.mono B2.out.size))
  have F3 := box (F2.out.below hb3)
  clear hb3
  obtain ⟨⟨r0, r1, r2, r3, r4⟩, ⟨f0, f1, f2, f3, f4⟩⟩ := C3.out
  go_wp2
  (try simp only [Exit.inBlock, Exit.then])
  refine bodyPost_ret (v := .tuple #[.agg #[.int .i64 0, .int .i64 0, .string ⟨#[]⟩, .slice none 0 0, .string ⟨#[]⟩], .int .i64 0, .int .i64 e0]) (by rw [results_cell_tmp2 rfl]; go_simp) rfl ⟨?_, ?_⟩
  · rw [HE.out]
    exact ⟨_, rfl, OwnF.nil _ _⟩
  · exact below5 B3.out (Nat.le_refl _) _ _ _ _ _
set_option maxRecDepth 100000 in
set_option maxHeartbeats 4000000 in
theorem rRes_no (s me : ByteArray) (cl : Bool) (w : World) (hs : s.size ≤ 4000000) (hm : me.size ≤ 65536) (st r t : List UInt8) (L : List F) (n : Nat) (mi sc how : Int) (HL : Box (headL false s.data.toList = .inr (st, L, n, r))) (hsl : st.length ≤ 2000) (HQ : Box (staL st = (mi, sc, t, 0))) (S : Box (Sm L)) (hlen : L.length ≤ 65536) (hns : n ≤ s.size) (HFR : Box (framedL L = (how, 0))) (HBL : Box (bodilessL sc me.data.toList = true)) (HE : Box (resM s.data.toList me.data.toList cl = ((mi, sc, t, unfrL L, []), (n : Int), 0))) :
    Calls Tryz.prog 14 #[.string s, .string me, .bool cl] w fun e w' => ResPost w.heap.size (resM s.data.toList me.data.toList cl) e w' ∧ Below w.heap.size w w' := by
  go_enter Tryz.func14, Tryz.ntmps14
  go_wp2_with fail
  refine (rHead_any s false _ hs).mono ?_; rintro e w1 ⟨hp, hb1⟩
  rw [HL.out] at hp
  obtain ⟨v1, rfl, hO1⟩ := hp
  obtain ⟨a1, cap1, rfl, hF1, _⟩ := hO1.fs
  have C1 := box ((C5.new (.int .i64 0) (.int .i64 0) (.string ⟨#[]⟩) (.slice none 0 0) (.string ⟨#[]⟩) w 32).below hb1 (by simp))
  have B1 := box ((below_new w _).trans (hb1.mono (below_new w _).size))
  have F1 := box hF1
  clear hb1 hO1 hF1
  go_wp2_with fail
  refine (rPSta_is hsl HQ).mono ?_; rintro e w2 ⟨rfl, hb2⟩
  have C2 := box (C1.out.next hb2)
  have B2 := box (B1.out.trans (hb2.mono B1.out.size))
  have F2 := box (F1.out.below hb2)
  clear hb2
  go_wp2_with fail
  refine (rframed_any a1 cap1 L _ hlen S F2).mono ?_; rintro e w3 ⟨rfl, hb3⟩
  rw [HFR.out]
  unfold frV
  have C3 := box (C2.out.next hb3)
  have B3 := box (B2.out.trans (hb3.mono B2.out.size))
  have F3 := box (F2.out.below hb3)
  clear hb3
  go_wp2_with fail
  refine (rUnframed_any a1 cap1 L _ S F3).mono ?_; rintro e w4 ⟨v4, rfl, hO4, hb4⟩
  obtain ⟨a4, cap4, rfl, _, _⟩ := hO4.fs
  have C4 := box (C3.out.next hb4)
  have B4 := box (B3.out.trans (hb4.mono B3.out.size))
  have O4 := box hO4
  have hg3 := C3.out.lt
  have hg4 := C4.out.lt
  have R4 := box (C5.new (.int .i64 mi) (.int .i64 sc) (.string (bs t)) (.slice a4 (unfrL L).length cap4) (.string ⟨#[]⟩) w4 32)
  clear hb4 hO4
  go_wp2_with fail
  refine (rBodil_is hm HBL).mono ?_; rintro e w5 ⟨rfl, rfl⟩
  have O6 := box (own_le (own_below (own_only O4.out (only5 w.heap.size w4 (.int .i64 mi) (.int .i64 sc) (.string (bs t)) (.slice a4 (unfrL L).length cap4) (.string ⟨#[]⟩)) hg3) (below_new _ (.cells #[.int .i64 mi, .int .i64 sc, .string (bs t), .slice a4 (unfrL L).length cap4, .string ⟨#[]⟩] 32))) B3.out.size)
  have B6 := box (fun v0 v1 v2 v3 v4 => below5 B4.out (Nat.le_refl _) v0 v1 v2 v3 v4)
  obtain ⟨⟨q0, q1, q2, q3, q4⟩, _⟩ := R4.out
  obtain ⟨⟨r0, r1, r2, r3, r4⟩, ⟨f0, f1, f2, f3, f4⟩⟩ := C4.out
  have hne : w.heap.size ≠ w4.heap.size := Nat.ne_of_lt hg4
  go_wp2
  (try simp only [Exit.inBlock, Exit.then])
  refine bodyPost_ret (v := .tuple #[.agg #[.int .i64 mi, .int .i64 sc, .string (bs t), .slice a4 (unfrL L).length cap4, .string ⟨#[]⟩], .int .i64 n, .int .i64 0]) (by rw [results_cell_tmp2 rfl]; go_simp) rfl ⟨?_, ?_⟩
  · rw [HE.out]
    exact ⟨_, rfl, O6.out⟩
  · exact (B6.out _ _ _ _ _).alloc (B6.out _ _ _ _ _).size _
set_option maxRecDepth 100000 in
set_option maxHeartbeats 4000000 in
theorem rRes_open (s me : ByteArray) (cl : Bool) (hcl : cl = false) (w : World) (hs : s.size ≤ 4000000) (hm : me.size ≤ 65536) (st r t : List UInt8) (L : List F) (n : Nat) (mi sc how : Int) (HL : Box (headL false s.data.toList = .inr (st, L, n, r))) (hsl : st.length ≤ 2000) (HQ : Box (staL st = (mi, sc, t, 0))) (S : Box (Sm L)) (hlen : L.length ≤ 65536) (hns : n ≤ s.size) (hhow : how = -2) (HFR : Box (framedL L = (how, 0))) (HBL : Box (bodilessL sc me.data.toList = false)) (HE : Box (resM s.data.toList me.data.toList cl = (zeroRS, 0, 2))) :
    Calls Tryz.prog 14 #[.string s, .string me, .bool cl] w fun e w' => ResPost w.heap.size (resM s.data.toList me.data.toList cl) e w' ∧ Below w.heap.size w w' := by
  subst hcl hhow
  go_enter Tryz.func14, Tryz.ntmps14
  go_wp2_with fail
  refine (rHead_any s false _ hs).mono ?_; rintro e w1 ⟨hp, hb1⟩
  rw [HL.out] at hp
  obtain ⟨v1, rfl, hO1⟩ := hp
  obtain ⟨a1, cap1, rfl, hF1, _⟩ := hO1.fs
  have C1 := box ((C5.new (.int .i64 0) (.int .i64 0) (.string ⟨#[]⟩) (.slice none 0 0) (.string ⟨#[]⟩) w 32).below hb1 (by simp))
  have B1 := box ((below_new w _).trans (hb1.mono (below_new w _).size))
  have F1 := box hF1
  clear hb1 hO1 hF1
  go_wp2_with fail
  refine (rPSta_is hsl HQ).mono ?_; rintro e w2 ⟨rfl, hb2⟩
  have C2 := box (C1.out.next hb2)
  have B2 := box (B1.out.trans (hb2.mono B1.out.size))
  have F2 := box (F1.out.below hb2)
  clear hb2
  go_wp2_with fail
  refine (rframed_any a1 cap1 L _ hlen S F2).mono ?_; rintro e w3 ⟨rfl, hb3⟩
  rw [HFR.out]
  unfold frV
  have C3 := box (C2.out.next hb3)
  have B3 := box (B2.out.trans (hb3.mono B2.out.size))
  have F3 := box (F2.out.below hb3)
  clear hb3
  go_wp2_with fail
  refine (rUnframed_any a1 cap1 L _ S F3).mono ?_; rintro e w4 ⟨v4, rfl, hO4, hb4⟩
  obtain ⟨a4, cap4, rfl, _, _⟩ := hO4.fs
  have C4 := box (C3.out.next hb4)
  have B4 := box (B3.out.trans (hb4.mono B3.out.size))
  have O4 := box hO4
  have hg3 := C3.out.lt
  have hg4 := C4.out.lt
  have R4 := box (C5.new (.int .i64 mi) (.int .i64 sc) (.string (bs t)) (.slice a4 (unfrL L).length cap4) (.string ⟨#[]⟩) w4 32)
  clear hb4 hO4
  go_wp2_with fail
  refine (rBodil_is hm HBL).mono ?_; rintro e w5 ⟨rfl, rfl⟩
  have hne : w.heap.size ≠ w4.heap.size := Nat.ne_of_lt hg4
  have B6 := box (fun v0 v1 v2 v3 v4 => below5 B4.out (Nat.le_refl _) v0 v1 v2 v3 v4)
  obtain ⟨⟨r0, r1, r2, r3, r4⟩, ⟨f0, f1, f2, f3, f4⟩⟩ := C4.out
  go_wp2
  (try simp only [Exit.inBlock, Exit.then])
  refine bodyPost_ret (v := .tuple #[.agg #[.int .i64 0, .int .i64 0, .string ⟨#[]⟩, .slice none 0 0, .string ⟨#[]⟩], .int .i64 0, .int .i64 2]) (by rw [results_cell_tmp2 rfl]; go_simp) rfl ⟨?_, ?_⟩
  · rw [HE.out]
    exact ⟨_, rfl, OwnF.nil _ _⟩
  · exact (B6.out _ _ _ _ _).alloc (B6.out _ _ _ _ _).size _
set_option maxRecDepth 100000 in
set_option maxHeartbeats 4000000 in
theorem rRes_body (s me : ByteArray) (cl : Bool) (w : World) (hs : s.size ≤ 4000000) (hm : me.size ≤ 65536) (st r t : List UInt8) (L : List F) (n : Nat) (mi sc how : Int) (HL : Box (headL false s.data.toList = .inr (st, L, n, r))) (hsl : st.length ≤ 2000) (HQ : Box (staL st = (mi, sc, t, 0))) (S : Box (Sm L)) (hlen : L.length ≤ 65536) (hns : n ≤ s.size) (h2 : Int) (hhow : (how = -2 ∧ cl = true ∧ h2 = (s.size : Int) - (n : Int)) ∨ (how ≠ -2 ∧ h2 = how)) (hh : h2 = -1 ∨ (0 ≤ h2 ∧ h2 ≤ 2147483647)) (HFR : Box (framedL L = (how, 0))) (HBL : Box (bodilessL sc me.data.toList = false)) (e0 : Int) (HB : Box (bodyL h2 (s.data.toList.drop n) = .inl e0)) (he : (e0 != 0) = true) (HE : Box (resM s.data.toList me.data.toList cl = (zeroRS, 0, e0))) :
    Calls Tryz.prog 14 #[.string s, .string me, .bool cl] w fun e w' => ResPost w.heap.size (resM s.data.toList me.data.toList cl) e w' ∧ Below w.heap.size w w' := by
  rcases hhow with ⟨rfl, rfl, rfl⟩ | ⟨hh2, rfl⟩
  · skip
    go_enter Tryz.func14, Tryz.ntmps14
    go_wp2_with fail
    refine (rHead_any s false _ hs).mono ?_; rintro e w1 ⟨hp, hb1⟩
    rw [HL.out] at hp
    obtain ⟨v1, rfl, hO1⟩ := hp
    obtain ⟨a1, cap1, rfl, hF1, _⟩ := hO1.fs
    have C1 := box ((C5.new (.int .i64 0) (.int .i64 0) (.string ⟨#[]⟩) (.slice none 0 0) (.string ⟨#[]⟩) w 32).below hb1 (by simp))
    have B1 := box ((below_new w _).trans (hb1.mono (below_new w _).size))
    have F1 := box hF1
    clear hb1 hO1 hF1
    go_wp2_with fail
    refine (rPSta_is hsl HQ).mono ?_; rintro e w2 ⟨rfl, hb2⟩
    have C2 := box (C1.out.next hb2)
    have B2 := box (B1.out.trans (hb2.mono B1.out.size))
    have F2 := box (F1.out.below hb2)
    clear hb2
    go_wp2_with fail
    refine (rframed_any a1 cap1 L _ hlen S F2).mono ?_; rintro e w3 ⟨rfl, hb3⟩
    rw [HFR.out]
    unfold frV
    have C3 := box (C2.out.next hb3)
    have B3 := box (B2.out.trans (hb3.mono B2.out.size))
    have F3 := box (F2.out.below hb3)
    clear hb3
    go_wp2_with fail
    refine (rUnframed_any a1 cap1 L _ S F3).mono ?_; rintro e w4 ⟨v4, rfl, hO4, hb4⟩
    obtain ⟨a4, cap4, rfl, _, _⟩ := hO4.fs
    have C4 := box (C3.out.next hb4)
    have B4 := box (B3.out.trans (hb4.mono B3.out.size))
    have O4 := box hO4
    have hg3 := C3.out.lt
    have hg4 := C4.out.lt
    have R4 := box (C5.new (.int .i64 mi) (.int .i64 sc) (.string (bs t)) (.slice a4 (unfrL L).length cap4) (.string ⟨#[]⟩) w4 32)
    clear hb4 hO4
    go_wp2_with fail
    refine (rBodil_is hm HBL).mono ?_; rintro e w5 ⟨rfl, rfl⟩
    have BW := box (below_new w4 (.cells #[.int .i64 mi, .int .i64 sc, .string (bs t), .slice a4 (unfrL L).length cap4, .string ⟨#[]⟩] 32))
    have C5' := box (C4.out.below BW.out hg4)
    have B5 := box (B4.out.trans (BW.out.mono B4.out.size))
    go_wp2_with fail
    refine (rbody_is hs hns hh HB).mono ?_; rintro e w6 ⟨rfl, hb6⟩
    have hbw : Below w4.heap.size w4 w6 := BW.out.trans (hb6.mono BW.out.size)
    have BW6 := box (fun v => hbw.setCell (p := ⟨w4.heap.size, 4, none⟩) (Nat.le_refl _) v)
    have C6 := box (fun v => C4.out.below (BW6.out v) hg4)
    have B6 := box (fun v => B4.out.trans ((BW6.out v).mono B4.out.size))
    have R6 := box (R4.out.below hb6 (by simp))
    obtain ⟨⟨r0, r1, r2, r3, r4⟩, ⟨f0, f1, f2, f3, f4⟩⟩ := C4.out.below hbw hg4
    obtain ⟨⟨q0, q1, q2, q3, q4⟩, ⟨_, _, _, _, p4⟩⟩ := R6.out
    have hne : w.heap.size ≠ w4.heap.size := Nat.ne_of_lt hg4
    clear hb6 hbw
    unfold bdV
    go_wp2
    (try simp only [Exit.inBlock, Exit.then])
    refine bodyPost_ret (v := .tuple #[.agg #[.int .i64 0, .int .i64 0, .string ⟨#[]⟩, .slice none 0 0, .string ⟨#[]⟩], .int .i64 0, .int .i64 e0]) (by rw [results_cell_tmp2 rfl]; go_simp) rfl ⟨?_, ?_⟩
    · rw [HE.out]
      exact ⟨_, rfl, OwnF.nil _ _⟩
    · exact below5 (B6.out _) (Nat.le_refl _) _ _ _ _ _
  · have hh3 : (h2 == -2) = false := by rw [beq_eq_false_iff_ne]; exact hh2
    go_enter Tryz.func14, Tryz.ntmps14
    go_wp2_with fail
    refine (rHead_any s false _ hs).mono ?_; rintro e w1 ⟨hp, hb1⟩
    rw [HL.out] at hp
    obtain ⟨v1, rfl, hO1⟩ := hp
    obtain ⟨a1, cap1, rfl, hF1, _⟩ := hO1.fs
    have C1 := box ((C5.new (.int .i64 0) (.int .i64 0) (.string ⟨#[]⟩) (.slice none 0 0) (.string ⟨#[]⟩) w 32).below hb1 (by simp))
    have B1 := box ((below_new w _).trans (hb1.mono (below_new w _).size))
    have F1 := box hF1
    clear hb1 hO1 hF1
    go_wp2_with fail
    refine (rPSta_is hsl HQ).mono ?_; rintro e w2 ⟨rfl, hb2⟩
    have C2 := box (C1.out.next hb2)
    have B2 := box (B1.out.trans (hb2.mono B1.out.size))
    have F2 := box (F1.out.below hb2)
    clear hb2
    go_wp2_with fail
    refine (rframed_any a1 cap1 L _ hlen S F2).mono ?_; rintro e w3 ⟨rfl, hb3⟩
    rw [HFR.out]
    unfold frV
    have C3 := box (C2.out.next hb3)
    have B3 := box (B2.out.trans (hb3.mono B2.out.size))
    have F3 := box (F2.out.below hb3)
    clear hb3
    go_wp2_with fail
    refine (rUnframed_any a1 cap1 L _ S F3).mono ?_; rintro e w4 ⟨v4, rfl, hO4, hb4⟩
    obtain ⟨a4, cap4, rfl, _, _⟩ := hO4.fs
    have C4 := box (C3.out.next hb4)
    have B4 := box (B3.out.trans (hb4.mono B3.out.size))
    have O4 := box hO4
    have hg3 := C3.out.lt
    have hg4 := C4.out.lt
    have R4 := box (C5.new (.int .i64 mi) (.int .i64 sc) (.string (bs t)) (.slice a4 (unfrL L).length cap4) (.string ⟨#[]⟩) w4 32)
    clear hb4 hO4
    go_wp2_with fail
    refine (rBodil_is hm HBL).mono ?_; rintro e w5 ⟨rfl, rfl⟩
    have BW := box (below_new w4 (.cells #[.int .i64 mi, .int .i64 sc, .string (bs t), .slice a4 (unfrL L).length cap4, .string ⟨#[]⟩] 32))
    have C5' := box (C4.out.below BW.out hg4)
    have B5 := box (B4.out.trans (BW.out.mono B4.out.size))
    go_wp2_with fail
    refine (rbody_is hs hns hh HB).mono ?_; rintro e w6 ⟨rfl, hb6⟩
    have hbw : Below w4.heap.size w4 w6 := BW.out.trans (hb6.mono BW.out.size)
    have BW6 := box (fun v => hbw.setCell (p := ⟨w4.heap.size, 4, none⟩) (Nat.le_refl _) v)
    have C6 := box (fun v => C4.out.below (BW6.out v) hg4)
    have B6 := box (fun v => B4.out.trans ((BW6.out v).mono B4.out.size))
    have R6 := box (R4.out.below hb6 (by simp))
    obtain ⟨⟨r0, r1, r2, r3, r4⟩, ⟨f0, f1, f2, f3, f4⟩⟩ := C4.out.below hbw hg4
    obtain ⟨⟨q0, q1, q2, q3, q4⟩, ⟨_, _, _, _, p4⟩⟩ := R6.out
    have hne : w.heap.size ≠ w4.heap.size := Nat.ne_of_lt hg4
    clear hb6 hbw
    unfold bdV
    go_wp2
    (try simp only [Exit.inBlock, Exit.then])
    refine bodyPost_ret (v := .tuple #[.agg #[.int .i64 0, .int .i64 0, .string ⟨#[]⟩, .slice none 0 0, .string ⟨#[]⟩], .int .i64 0, .int .i64 e0]) (by rw [results_cell_tmp2 rfl]; go_simp) rfl ⟨?_, ?_⟩
    · rw [HE.out]
      exact ⟨_, rfl, OwnF.nil _ _⟩
    · exact below5 (B6.out _) (Nat.le_refl _) _ _ _ _ _
set_option maxRecDepth 100000 in
set_option maxHeartbeats 4000000 in
theorem rRes_ok (s me : ByteArray) (cl : Bool) (w : World) (hs : s.size ≤ 4000000) (hm : me.size ≤ 65536) (st r t : List UInt8) (L : List F) (n : Nat) (mi sc how : Int) (HL : Box (headL false s.data.toList = .inr (st, L, n, r))) (hsl : st.length ≤ 2000) (HQ : Box (staL st = (mi, sc, t, 0))) (S : Box (Sm L)) (hlen : L.length ≤ 65536) (hns : n ≤ s.size) (h2 : Int) (hhow : (how = -2 ∧ cl = true ∧ h2 = (s.size : Int) - (n : Int)) ∨ (how ≠ -2 ∧ h2 = how)) (hh : h2 = -1 ∨ (0 ≤ h2 ∧ h2 ≤ 2147483647)) (HFR : Box (framedL L = (how, 0))) (HBL : Box (bodilessL sc me.data.toList = false)) (b : List UInt8) (c : Int) (hc : 0 ≤ c ∧ c ≤ 4000000) (HB : Box (bodyL h2 (s.data.toList.drop n) = .inr (b, c))) (HE : Box (resM s.data.toList me.data.toList cl = ((mi, sc, t, unfrL L, b), (n : Int) + c, 0))) :
    Calls Tryz.prog 14 #[.string s, .string me, .bool cl] w fun e w' => ResPost w.heap.size (resM s.data.toList me.data.toList cl) e w' ∧ Below w.heap.size w w' := by
  obtain ⟨hc0, hc1⟩ := hc
  rcases hhow with ⟨rfl, rfl, rfl⟩ | ⟨hh2, rfl⟩
  · skip
    go_enter Tryz.func14, Tryz.ntmps14
    go_wp2_with fail
    refine (rHead_any s false _ hs).mono ?_; rintro e w1 ⟨hp, hb1⟩
    rw [HL.out] at hp
    obtain ⟨v1, rfl, hO1⟩ := hp
    obtain ⟨a1, cap1, rfl, hF1, _⟩ := hO1.fs
    have C1 := box ((C5.new (.int .i64 0) (.int .i64 0) (.string ⟨#[]⟩) (.slice none 0 0) (.string ⟨#[]⟩) w 32).below hb1 (by simp))
    have B1 := box ((below_new w _).trans (hb1.mono (below_new w _).size))
    have F1 := box hF1
    clear hb1 hO1 hF1
    go_wp2_with fail
    refine (rPSta_is hsl HQ).mono ?_; rintro e w2 ⟨rfl, hb2⟩
    have C2 := box (C1.out.next hb2)
    have B2 := box (B1.out.trans (hb2.mono B1.out.size))
    have F2 := box (F1.out.below hb2)
    clear hb2
    go_wp2_with fail
    refine (rframed_any a1 cap1 L _ hlen S F2).mono ?_; rintro e w3 ⟨rfl, hb3⟩
    rw [HFR.out]
    unfold frV
    have C3 := box (C2.out.next hb3)
    have B3 := box (B2.out.trans (hb3.mono B2.out.size))
    have F3 := box (F2.out.below hb3)
    clear hb3
    go_wp2_with fail
    refine (rUnframed_any a1 cap1 L _ S F3).mono ?_; rintro e w4 ⟨v4, rfl, hO4, hb4⟩
    obtain ⟨a4, cap4, rfl, _, _⟩ := hO4.fs
    have C4 := box (C3.out.next hb4)
    have B4 := box (B3.out.trans (hb4.mono B3.out.size))
    have O4 := box hO4
    have hg3 := C3.out.lt
    have hg4 := C4.out.lt
    have R4 := box (C5.new (.int .i64 mi) (.int .i64 sc) (.string (bs t)) (.slice a4 (unfrL L).length cap4) (.string ⟨#[]⟩) w4 32)
    clear hb4 hO4
    go_wp2_with fail
    refine (rBodil_is hm HBL).mono ?_; rintro e w5 ⟨rfl, rfl⟩
    have BW := box (below_new w4 (.cells #[.int .i64 mi, .int .i64 sc, .string (bs t), .slice a4 (unfrL L).length cap4, .string ⟨#[]⟩] 32))
    have C5' := box (C4.out.below BW.out hg4)
    have B5 := box (B4.out.trans (BW.out.mono B4.out.size))
    go_wp2_with fail
    refine (rbody_is hs hns hh HB).mono ?_; rintro e w6 ⟨rfl, hb6⟩
    have hbw : Below w4.heap.size w4 w6 := BW.out.trans (hb6.mono BW.out.size)
    have BW6 := box (fun v => hbw.setCell (p := ⟨w4.heap.size, 4, none⟩) (Nat.le_refl _) v)
    have C6 := box (fun v => C4.out.below (BW6.out v) hg4)
    have B6 := box (fun v => B4.out.trans ((BW6.out v).mono B4.out.size))
    have R6 := box (R4.out.below hb6 (by simp))
    obtain ⟨⟨r0, r1, r2, r3, r4⟩, ⟨f0, f1, f2, f3, f4⟩⟩ := C4.out.below hbw hg4
    obtain ⟨⟨q0, q1, q2, q3, q4⟩, ⟨_, _, _, _, p4⟩⟩ := R6.out
    have hne : w.heap.size ≠ w4.heap.size := Nat.ne_of_lt hg4
    clear hb6 hbw
    unfold bdV
    go_wp2
    (try simp only [Exit.inBlock, Exit.then])
    refine bodyPost_ret (v := .tuple #[.agg #[.int .i64 mi, .int .i64 sc, .string (bs t), .slice a4 (unfrL L).length cap4, .string (bs b)], .int .i64 ((n : Int) + c), .int .i64 0]) (by rw [results_cell_tmp2 rfl]; go_simp) rfl ⟨?_, ?_⟩
    · rw [HE.out]
      exact ⟨_, rfl, own_le (own_only (own_below O4.out (BW6.out _)) (only5 w.heap.size _ _ _ _ _ _) hg3) B3.out.size⟩
    · exact below5 (B6.out _) (Nat.le_refl _) _ _ _ _ _
  · have hh3 : (h2 == -2) = false := by rw [beq_eq_false_iff_ne]; exact hh2
    go_enter Tryz.func14, Tryz.ntmps14
    go_wp2_with fail
    refine (rHead_any s false _ hs).mono ?_; rintro e w1 ⟨hp, hb1⟩
    rw [HL.out] at hp
    obtain ⟨v1, rfl, hO1⟩ := hp
    obtain ⟨a1, cap1, rfl, hF1, _⟩ := hO1.fs
    have C1 := box ((C5.new (.int .i64 0) (.int .i64 0) (.string ⟨#[]⟩) (.slice none 0 0) (.string ⟨#[]⟩) w 32).below hb1 (by simp))
    have B1 := box ((below_new w _).trans (hb1.mono (below_new w _).size))
    have F1 := box hF1
    clear hb1 hO1 hF1
    go_wp2_with fail
    refine (rPSta_is hsl HQ).mono ?_; rintro e w2 ⟨rfl, hb2⟩
    have C2 := box (C1.out.next hb2)
    have B2 := box (B1.out.trans (hb2.mono B1.out.size))
    have F2 := box (F1.out.below hb2)
    clear hb2
    go_wp2_with fail
    refine (rframed_any a1 cap1 L _ hlen S F2).mono ?_; rintro e w3 ⟨rfl, hb3⟩
    rw [HFR.out]
    unfold frV
    have C3 := box (C2.out.next hb3)
    have B3 := box (B2.out.trans (hb3.mono B2.out.size))
    have F3 := box (F2.out.below hb3)
    clear hb3
    go_wp2_with fail
    refine (rUnframed_any a1 cap1 L _ S F3).mono ?_; rintro e w4 ⟨v4, rfl, hO4, hb4⟩
    obtain ⟨a4, cap4, rfl, _, _⟩ := hO4.fs
    have C4 := box (C3.out.next hb4)
    have B4 := box (B3.out.trans (hb4.mono B3.out.size))
    have O4 := box hO4
    have hg3 := C3.out.lt
    have hg4 := C4.out.lt
    have R4 := box (C5.new (.int .i64 mi) (.int .i64 sc) (.string (bs t)) (.slice a4 (unfrL L).length cap4) (.string ⟨#[]⟩) w4 32)
    clear hb4 hO4
    go_wp2_with fail
    refine (rBodil_is hm HBL).mono ?_; rintro e w5 ⟨rfl, rfl⟩
    have BW := box (below_new w4 (.cells #[.int .i64 mi, .int .i64 sc, .string (bs t), .slice a4 (unfrL L).length cap4, .string ⟨#[]⟩] 32))
    have C5' := box (C4.out.below BW.out hg4)
    have B5 := box (B4.out.trans (BW.out.mono B4.out.size))
    go_wp2_with fail
    refine (rbody_is hs hns hh HB).mono ?_; rintro e w6 ⟨rfl, hb6⟩
    have hbw : Below w4.heap.size w4 w6 := BW.out.trans (hb6.mono BW.out.size)
    have BW6 := box (fun v => hbw.setCell (p := ⟨w4.heap.size, 4, none⟩) (Nat.le_refl _) v)
    have C6 := box (fun v => C4.out.below (BW6.out v) hg4)
    have B6 := box (fun v => B4.out.trans ((BW6.out v).mono B4.out.size))
    have R6 := box (R4.out.below hb6 (by simp))
    obtain ⟨⟨r0, r1, r2, r3, r4⟩, ⟨f0, f1, f2, f3, f4⟩⟩ := C4.out.below hbw hg4
    obtain ⟨⟨q0, q1, q2, q3, q4⟩, ⟨_, _, _, _, p4⟩⟩ := R6.out
    have hne : w.heap.size ≠ w4.heap.size := Nat.ne_of_lt hg4
    clear hb6 hbw
    unfold bdV
    go_wp2
    (try simp only [Exit.inBlock, Exit.then])
    refine bodyPost_ret (v := .tuple #[.agg #[.int .i64 mi, .int .i64 sc, .string (bs t), .slice a4 (unfrL L).length cap4, .string (bs b)], .int .i64 ((n : Int) + c), .int .i64 0]) (by rw [results_cell_tmp2 rfl]; go_simp) rfl ⟨?_, ?_⟩
    · rw [HE.out]
      exact ⟨_, rfl, own_le (own_only (own_below O4.out (BW6.out _)) (only5 w.heap.size _ _ _ _ _ _) hg3) B3.out.size⟩
    · exact below5 (B6.out _) (Nat.le_refl _) _ _ _ _ _
theorem rResponse_any (s me : ByteArray) (cl : Bool) (w : World) (hs : s.size ≤ 4000000) (hm : me.size ≤ 65536) :
    Calls Tryz.prog 14 #[.string s, .string me, .bool cl] w fun e w' => ResPost w.heap.size (resM s.data.toList me.data.toList cl) e w' ∧ Below w.heap.size w w' := by
  rcases hh : headL false s.data.toList with c | ⟨st, L, n, r⟩
  · exact rRes_bad s me cl w c hs (box hh)
  · have ok := headL_ok hh
    obtain ⟨mi, sc, t, e1, hq⟩ : ∃ mi sc t e1, staL st = (mi, sc, t, e1) := ⟨_, _, _, _, rfl⟩
    have he1 : e1 = 0 := by
      have := ok.start
      unfold startE at this
      rw [if_neg (by simp), hq] at this; exact this
    subst he1
    have hz : s.data.toList.length = s.size := by simp
    have S := sm_head ok.small ok.few
    have hns : n ≤ s.size := by have := ok.most; omega
    have hr : r = s.data.toList.drop n := by have := ok.rest; simpa using this
    have hrl : r.length = s.size - n := by rw [hr, List.length_drop, hz]
    have hlen : L.length ≤ 65536 := by have := ok.few; omega
    obtain ⟨how, e0, hf⟩ : ∃ how e0, framedL L = (how, e0) := ⟨_, _, rfl⟩
    have hfc := fr_cases L
    rw [hf] at hfc
    simp only at hfc
    by_cases he0 : e0 = 0
    · subst he0
      have hhow := (hfc.resolve_left (by simp)).2
      rcases hbl : bodilessL sc me.data.toList with _ | _
      · by_cases hop : how = -2 ∧ cl = false
        · refine rRes_open s me cl hop.2 w hs hm st r t L n mi sc how (box hh) ok.slen (box hq) (box S) hlen hns hop.1 (box hf) (box hbl) (box ?_)
          unfold resM
          rw [hh]
          simp only [hf, hq, hbl]
          rw [if_neg (by simp), if_neg (by simp), if_pos hop]
        · obtain ⟨h2, hh2⟩ : ∃ h2, (if how = -2 then ((s.size : Int) - (n : Int)) else how) = h2 := ⟨_, rfl⟩
          have hw : (how = -2 ∧ cl = true ∧ h2 = (s.size : Int) - (n : Int)) ∨ (how ≠ -2 ∧ h2 = how) := by
            rw [← hh2]; by_cases q : how = -2
            · left; exact ⟨q, by cases cl; exact absurd ⟨q, rfl⟩ hop; rfl, by rw [if_pos q]⟩
            · right; exact ⟨q, by rw [if_neg q]⟩
          have hb2 : h2 = -1 ∨ (0 ≤ h2 ∧ h2 ≤ 2147483647) := by omega
          have hrl2 : ((r.length : Nat) : Int) = (s.size : Int) - (n : Int) := by omega
          have key : ∀ x, bodyL h2 (s.data.toList.drop n) = x → resM s.data.toList me.data.toList cl = match x with | .inl e => (zeroRS, 0, e) | .inr (b, c) => ((mi, sc, t, unfrL L, b), (n : Int) + c, 0) := by
            intro x hx
            unfold resM
            rw [hh]
            simp only [hf, hq, hbl, hrl2, hh2]
            rw [if_neg (by simp), if_neg (by simp), if_neg hop, hr, hx]
            rcases x with e | ⟨b, c⟩ <;> rfl
          rcases hb : bodyL h2 (s.data.toList.drop n) with e2 | ⟨b, c⟩
          · exact rRes_body s me cl w hs hm st r t L n mi sc how (box hh) ok.slen (box hq) (box S) hlen hns h2 hw hb2 (box hf) (box hbl) e2 (box hb) (by rw [bne_iff_ne]; exact body_err hb) (box (key _ hb))
          · have hc := body_ok hb (by omega)
            rw [List.length_drop, hz] at hc
            exact rRes_ok s me cl w hs hm st r t L n mi sc how (box hh) ok.slen (box hq) (box S) hlen hns h2 hw hb2 (box hf) (box hbl) b c (by omega) (box hb) (box (key _ hb))
      · refine rRes_no s me cl w hs hm st r t L n mi sc how (box hh) ok.slen (box hq) (box S) hlen hns (box hf) (box hbl) (box ?_)
        unfold resM
        rw [hh]
        simp only [hf, hq, hbl]
        rw [if_neg (by simp), if_pos trivial]
    · refine rRes_fr s me cl w hs hm st r t L n mi sc how (box hh) ok.slen (box hq) (box S) hlen hns e0 (box hf) (by rw [bne_iff_ne]; exact he0) (box ?_)
      unfold resM
      rw [hh]
      simp only [hf]
      rw [if_pos he0]
end
section
open Go.RowKit
def InI64 (n : Int) : Prop := -9223372036854775808 ≤ n ∧ n ≤ 9223372036854775807
theorem wrapu_pos {n : Int} (h : InI64 n) (h0 : 0 ≤ n) : IntKind.u64.wrap n = (n.natAbs : Int) := by
  unfold InI64 at h; rw [IntKind.wrap_u64]; omega
theorem wrapu_neg {n : Int} (h : InI64 n) (h0 : n < 0) : IntKind.u64.wrap (-IntKind.u64.wrap n) = (n.natAbs : Int) := by
  unfold InI64 at h; rw [IntKind.wrap_u64, IntKind.wrap_u64]; omega
theorem wrapu_div {N q : Nat} {acc : List UInt8} (h : DecAt N q acc) : IntKind.u64.wrap ((q : Int) / 10) = (q : Int) / 10 := by
  have h2 := h.2.1
  have h3 : q ≤ q * 10 ^ acc.length := Nat.le_mul_of_pos_right _ (Nat.pow_pos (by omega))
  rw [IntKind.wrap_u64]; omega
theorem slice_buf (g p : Nat) (x : Int) (w : World) (hx : x = (p : Int)) (h2 : p < 20) :
    (Instr.sliceAt 103 (.pointer (some ⟨g, 0, none⟩)) (some (.int .i64 x)) none none).run Tryz.prog w = .ok (.slice (some ⟨g, p, none⟩) (20 - p) (20 - p)) w := by
  have e : Tryz.prog.arrayLen 103 = 20 := by kernel_rfl
  have e2 : Tryz.prog.elem 103 = 5 := by kernel_rfl
  have hs : (sizeOf 5).run Tryz.prog w = .ok 1 w := by kernel_rfl
  have h := run_sliceAt_array_l (P := Tryz.prog) w 103 ⟨g, 0, none⟩ (by kernel_rfl) .i64 x (by omega) (by rw [e]; omega)
  rw [h, e, e2, hs]
  have e3 : x.toNat = p := by omega
  simp only [Result.andThen, slicedAt, e3]
  rw [if_neg (by omega)]
  have e4 : (⟨g, 0, none⟩ : Addr).add (p * 1) = ⟨g, p, none⟩ := by unfold Addr.add; split <;> simp_all
  rw [e4]
theorem buf_start (w : World) : Bys (w.alloc (.cells (Array.replicate 20 (.int .u8 0)) 103)) w.heap.size (zbuf 20 []) := by
  refine ⟨by simp, fun j hj => ?_⟩
  simp only [zbuf, List.append_nil, List.length_replicate] at hj ⊢
  refine ⟨?_, by go_simp⟩
  rw [World.cell?_alloc_at (hn := rfl), Array.getElem?_replicate, if_pos hj]
  rw [getD_get _ _ (by simpa using hj), List.getElem_replicate]; rfl
/-- 'string(buffer[p:])' -/
theorem str_buf (g p : Nat) (acc : List UInt8) (w : World) (h : Bys w g (zbuf p acc)) (hp : acc.length + p = 20) :
    (convert 104 9 (.slice (some ⟨g, p, none⟩) (20 - p) (20 - p))).run Tryz.prog w = .ok (.string ⟨acc.toArray⟩) w := by
  have e : 20 - p = acc.length := by omega
  rw [e]
  refine run_convert_bytes_back w 104 9 5 ⟨g, p, none⟩ acc.length acc Tryz.underlying104 Tryz.underlying5 Tryz.underlying9 fun j hj => ?_
  have hc := h.cell (j := p + j) (by simp [zbuf]; omega)
  have ea : (⟨g, p, none⟩ : Addr).add j = ⟨g, p + j, none⟩ := by unfold Addr.add; split <;> simp_all
  rw [ea, hc]
  have : (zbuf p acc).getD (p + j) 0 = acc[j] := by
    simp only [zbuf, List.getD_eq_getElem?_getD]
    rw [List.getElem?_append_right (by simp)]; simp [hj]
  rw [this]; rfl
theorem Decimal_pos (n : Int) (w : World) (h0 : 0 ≤ n) (h1 : InI64 n) :
    Calls Tryz.prog 64 #[.int .i64 n] w fun e w' => e = .returned (.string ⟨(decL n).toArray⟩) ∧ Below w.heap.size w w' := by
  have H1 := Lib.hid h1
  clear h1
  go_enter Tryz.func64, Tryz.ntmps64
  go_wp2
  go_loopw [3, 5] (fun m i wr => ∃ (q p : Nat) (acc : List UInt8), m = .int .u64 q ∧ i = .int .i64 p ∧ acc.length + p = 20 ∧ Bys wr w.heap.size (zbuf p acc) ∧ DecAt n.natAbs q acc ∧ Below w.heap.size w wr) (fun _ i _ => (intOf i).toNat)
  case atStart =>
    refine ⟨_, 20, [], by rw [wrapu_pos H1.out h0], rfl, rfl, ?_, DecAt.start (by have := H1.out; unfold InI64 at this; omega), (Below.refl _ _).alloc (Nat.le_refl _) _⟩
    exact buf_start w
  case round =>
    obtain ⟨q, p, acc, rfl, rfl, hp, hB, hD, hbel⟩ := hrel
    have hl := hD.len
    have hp1 : 2 ≤ p := by omega
    have hp2 : p ≤ 20 := by omega
    have HP := Lib.hid hp
    obtain ⟨cv, hc⟩ : ∃ cv, wr.cell? ⟨w.heap.size, p - 1, none⟩ = some cv := ⟨_, hB.cell (by simp [zbuf]; omega)⟩
    have hf : wr.frozen? ⟨w.heap.size, p - 1, none⟩ = false := hB.frozen (by simp [zbuf]; omega)
    have hset := hB.set (k := p - 1) (by simp [zbuf]; omega) (digB q)
    rw [zbuf_set _ (by omega), bv, dig_toNat] at hset
    have HS := Lib.hid hset
    have hbs := Lib.hid (hbel.setCell (p := ⟨w.heap.size, p - 1, none⟩) (Nat.le_refl _) (.int .u8 (48 + (q : Int) % 10)))
    have hw := wrapu_div hD
    have hsl := fun wx => slice_buf w.heap.size (p - 1) ((p : Int) - 1) wx (by omega) (by omega)
    clear hp hset
    by_cases hm : q / 10 = 0
    · have hst := str_buf _ _ _ _ HS.out (by have := HP.out; simp; omega)
      have hm' : ((q : Int) / 10 == 0) = true := by simp; omega
      have HF := Lib.hid (hD.fin hm)
      clear hm
      go_wp2
      go_ret
      exact ⟨by rw [decL, if_neg (by omega), HF.out]; rfl, hbs.out⟩
    · have hm' : ((q : Int) / 10 == 0) = false := by simp; omega
      have HF := Lib.hid (hD.step hm)
      clear hm
      go_wp2
      go_roundw
      case rel => exact ⟨q / 10, p - 1, _, by go_num, by go_num, by have := HP.out; simp; omega, HS.out, HF.out, hbs.out⟩
      case measure => simp [intOf]; omega
theorem Decimal_neg (n : Int) (w : World) (h0 : n < 0) (h1 : InI64 n) :
    Calls Tryz.prog 64 #[.int .i64 n] w fun e w' => e = .returned (.string ⟨(decL n).toArray⟩) ∧ Below w.heap.size w w' := by
  have H1 := Lib.hid h1
  clear h1
  go_enter Tryz.func64, Tryz.ntmps64
  go_wp2
  go_loopw [3, 5] (fun m i wr => ∃ (q p : Nat) (acc : List UInt8), m = .int .u64 q ∧ i = .int .i64 p ∧ acc.length + p = 20 ∧ Bys wr w.heap.size (zbuf p acc) ∧ DecAt n.natAbs q acc ∧ Below w.heap.size w wr) (fun _ i _ => (intOf i).toNat)
  case atStart =>
    refine ⟨_, 20, [], by rw [wrapu_neg H1.out h0], rfl, rfl, ?_, DecAt.start (by have := H1.out; unfold InI64 at this; omega), (Below.refl _ _).alloc (Nat.le_refl _) _⟩
    exact buf_start w
  case round =>
    obtain ⟨q, p, acc, rfl, rfl, hp, hB, hD, hbel⟩ := hrel
    have hl := hD.len
    have hp1 : 2 ≤ p := by omega
    have hp2 : p ≤ 20 := by omega
    have HP := Lib.hid hp
    obtain ⟨cv, hc⟩ : ∃ cv, wr.cell? ⟨w.heap.size, p - 1, none⟩ = some cv := ⟨_, hB.cell (by simp [zbuf]; omega)⟩
    have hf : wr.frozen? ⟨w.heap.size, p - 1, none⟩ = false := hB.frozen (by simp [zbuf]; omega)
    have hset := hB.set (k := p - 1) (by simp [zbuf]; omega) (digB q)
    rw [zbuf_set _ (by omega), bv, dig_toNat] at hset
    have HS := Lib.hid hset
    have hbs := Lib.hid (hbel.setCell (p := ⟨w.heap.size, p - 1, none⟩) (Nat.le_refl _) (.int .u8 (48 + (q : Int) % 10)))
    have hw := wrapu_div hD
    have hsl := fun wx => slice_buf w.heap.size (p - 1) ((p : Int) - 1) wx (by omega) (by omega)
    clear hp hset
    by_cases hm : q / 10 = 0
    · obtain ⟨cv2, hc2⟩ : ∃ cv, (wr.setCell ⟨w.heap.size, p - 1, none⟩ (.int .u8 (48 + (q : Int) % 10))).cell? ⟨w.heap.size, p - 1 - 1, none⟩ = some cv := ⟨_, HS.out.cell (by simp [zbuf]; omega)⟩
      have hf2 : wr.frozen? ⟨w.heap.size, p - 1 - 1, none⟩ = false := hB.frozen (by simp [zbuf]; omega)
      have hset2 := HS.out.set (k := p - 1 - 1) (by simp [zbuf]; omega) 45
      rw [zbuf_set _ (by omega), show bv 45 = .int .u8 45 from rfl] at hset2
      have hst := str_buf _ _ _ _ hset2 (by have := HP.out; simp; omega)
      have hbs2 := Lib.hid (hbs.out.setCell (p := ⟨w.heap.size, p - 1 - 1, none⟩) (Nat.le_refl _) (.int .u8 45))
      have hsl := fun wx => slice_buf w.heap.size (p - 1 - 1) ((p : Int) - 1 - 1) wx (by omega) (by omega)
      clear hset2
      have hm' : ((q : Int) / 10 == 0) = true := by simp; omega
      have HF := Lib.hid (hD.fin hm)
      clear hm
      go_wp2
      go_ret
      exact ⟨by rw [decL, if_pos (by omega), HF.out]; rfl, hbs2.out⟩
    · have hm' : ((q : Int) / 10 == 0) = false := by simp; omega
      have HF := Lib.hid (hD.step hm)
      clear hm
      go_wp2
      go_roundw
      case rel => exact ⟨q / 10, p - 1, _, by go_num, by go_num, by have := HP.out; simp; omega, HS.out, HF.out, hbs.out⟩
      case measure => simp [intOf]; omega
theorem Decimal_any (n : Int) (w : World) (h1 : InI64 n) :
    Calls Tryz.prog 64 #[.int .i64 n] w fun e w' => e = .returned (.string ⟨(decL n).toArray⟩) ∧ Below w.heap.size w w' := by
  by_cases h : 0 ≤ n
  · exact Decimal_pos n w h h1
  · exact Decimal_neg n w (by omega) h1
end
section
open Go.RowKit
/-- append of the bytes of a slice of the call's own, nil or not -/
theorem wpList_append_bytes (w : World) {ops : Array Oper} {rest : List Oper} {o : Oper} {a : Act} {Q : Exit → Act → World → Prop} (hgd : o.guard = none) (s x : Operand)
    (ho : o.op = .call { callee := .builtin .append, args := #[s, x], argTypes := #[104, 104] })
    (B : Nat) (v : Value) (l : List UInt8) (hs : a.eval s = v) (hown : Own w B v l)
    (v2 : Value) (l2 : List UInt8) (hx : a.eval x = v2) (hown2 : Own w B v2 l2) (hl : l.length + l2.length < 8589934592) (hB : B ≤ w.heap.size)
    (h : ∀ v' w', Own w' B v' (l ++ l2) → Below B w w' → wpList Tryz.prog ops Q rest (a.put o.dst v') w') : wpList Tryz.prog ops Q (o :: rest) a w := by
  obtain ⟨i0, hi0, hz0, hz1, hz2⟩ := info_parts info_u8
  rcases hown2.2 with ⟨rfl, hn⟩ | ⟨g, cap, cur, rfl, hb, hh, hnc, hcm, hcs, htake⟩
  · have e : l2 = [] := by simpa using hn
    subst e
    refine wpList_append_own_none (P := Tryz.prog) (w := w) hgd s x 104 ho B 5 i0 1 Tryz.underlying104 hi0 v l.length (l.map bv) hs hown hx ?_
    exact h v w (by simpa using hown) (Below.refl _ _)
  · refine wpList_append_own (P := Tryz.prog) w hgd s x 104 ho B 5 i0 _ 1 1 Tryz.underlying104 hi0 hz0 hz1 hz2 rfl (by decide) v l.length (l.map bv) hs hown ⟨g, 0, none⟩ l2.length cap (l2.map bv) hx (by simp) ?_ (bv_oneCell l2) (by unfold maxLen; omega) (by omega) hB ?_
    · intro j u hj
      have ea : (⟨g, 0, none⟩ : Addr).add j = ⟨g, j, none⟩ := by unfold Addr.add; split <;> simp_all
      have hj' := (List.getElem?_eq_some_iff.1 hj).1
      rw [ea, World.ownsRow.cellAt hown2 j (by simpa using hj')]; exact hj
    · intro v' w' h1 h2 _
      exact h v' w' (by simpa [Own] using h1) ((Below.refl _ _).grown h2 hB (fun k hk => Own.block hown k hk))
/-- how far the digits have come -/
def RDec (N m : Nat) (acc : List UInt8) : Prop := DecAt N m acc ∨ (m = 0 ∧ 1 ≤ acc.length ∧ acc.length ≤ 19 ∧ decF 20 N [] = acc)
theorem RDec.next {N m : Nat} {acc : List UInt8} (h : DecAt N m acc) : RDec N (m / 10) (digB m :: acc) := by
  by_cases hm : m / 10 = 0
  · have := h.len
    exact .inr ⟨hm, by simp, by simp; omega, h.fin hm⟩
  · exact .inl (h.step hm)
theorem Own.fresh (w : World) (B : Nat) (d : UInt8) (b : Int) (hb : b = (d.toNat : Int)) (hB : B ≤ w.heap.size) : Own (w.alloc (.cells #[.int .u8 b] 5)) B (.slice (some ⟨w.heap.size, 0, none⟩) 1 1) [d] := by
  subst hb
  exact ⟨rfl, .inr ⟨_, _, _, rfl, hB, heap_alloc_new w _, Nat.le_refl _, by unfold maxLen; omega, rfl, rfl⟩⟩
theorem wrap_div {N m : Nat} {acc : List UInt8} (h : DecAt N m acc) : wrap64 ((m : Int) / 10) = (m : Int) / 10 := by
  have h2 := h.2.1
  have h3 : m ≤ m * 10 ^ acc.length := Nat.le_mul_of_pos_right _ (Nat.pow_pos (by omega))
  exact IntWalk.wrap64_in _ (by omega)
theorem wrap_ndiv {N m : Nat} {acc : List UInt8} (h : DecAt N m acc) : wrap64 (-((m : Int) / 10)) = -((m : Int) / 10) := by
  have h2 := h.2.1
  have h3 : m ≤ m * 10 ^ acc.length := Nat.le_mul_of_pos_right _ (Nat.pow_pos (by omega))
  exact IntWalk.wrap64_in _ (by omega)
theorem RDec.step {N m : Nat} {acc : List UInt8} (h : DecAt N m acc) : Hid (RDec N (m / 10) (digB m :: acc)) := Lib.hid (RDec.next h)
theorem rDecimal_pos (n : Int) (w : World) (h0 : 0 ≤ n) (h1 : InI64 n) :
    Calls Tryz.prog 68 #[.int .i64 n] w fun e w' => e = .returned (.string ⟨(decL n).toArray⟩) ∧ Below w.heap.size w w' := by
  obtain ⟨N, rfl⟩ := Int.eq_ofNat_of_zero_le h0
  have H1 := Lib.hid h1
  clear h1
  go_enter Tryz.func68, Tryz.ntmps68
  go_wp2
  go_loopw [0, 3, 5, 6] (fun n b k _ wr => ∃ (m : Nat) (acc : List UInt8), n = .int .i64 m ∧ k = .int .i64 acc.length ∧ Own wr w.heap.size b acc ∧ Hid (RDec N m acc) ∧ Below w.heap.size w wr) (fun n _ k _ _ => 20 - (intOf k).toNat)
  case atStart => exact ⟨N, [], rfl, rfl, Own.nil _ _, Lib.hid (.inl (DecAt.start (by have := H1.out; unfold InI64 at this; omega))), Below.refl _ _⟩
  case round =>
    obtain ⟨m, acc, rfl, rfl, hO, hR, hbel⟩ := hrel
    rcases hR.out with hD | ⟨rfl, ha1, ha2, ha3⟩
    · have hlen := hD.len
      have HD := Lib.hid hD
      have hw := wrap_div hD
      have HN := RDec.step hD
      clear hD
      by_cases hm : m = 0
      · have hm1 : ((m : Int) != 0) = false := by simp [hm]
        have hm2 : ((acc.length : Int) == 0) = true := by rcases HD.out.2.2 with h | h <;> simp [h] ; omega
        clear hm
        go_wp2_with (at_builtin; refine wpList_append_bytes _ rfl _ _ rfl w.heap.size _ [digB m] rfl (Own.fresh _ _ _ _ (dig_toNat m).symm hbel.size) _ acc rfl (hO.alloc _) (by simp; omega) (by have := hbel.size; simp; omega) ?_; intro v' w1 hO1 hb1)
        go_roundw
        case rel => exact ⟨m / 10, digB m :: acc, by go_num, by go_num, hO1, HN, (hbel.alloc hbel.size _).trans hb1⟩
        case measure => simp [intOf]; omega
      · have hm1 : ((m : Int) != 0) = true := by simp [hm]
        clear hm
        go_wp2_with (at_builtin; refine wpList_append_bytes _ rfl _ _ rfl w.heap.size _ [digB m] rfl (Own.fresh _ _ _ _ (dig_toNat m).symm hbel.size) _ acc rfl (hO.alloc _) (by simp; omega) (by have := hbel.size; simp; omega) ?_; intro v' w1 hO1 hb1)
        go_roundw
        case rel => exact ⟨m / 10, digB m :: acc, by go_num, by go_num, hO1, HN, (hbel.alloc hbel.size _).trans hb1⟩
        case measure => simp [intOf]; omega
    · have hst := hO.str
      have hm2 : ((acc.length : Int) == 0) = false := by simp; intro h; simp [h] at ha1
      have HA := Lib.hid ha3
      clear ha3
      go_wp2
      go_ret
      exact ⟨by rw [decL, if_neg (by omega), show ((N : Int)).natAbs = N from rfl, HA.out]; rfl, hbel⟩
theorem rDecimal_neg (N : Nat) (w : World) (h0 : 1 ≤ N) (h1 : InI64 (-(N : Int))) :
    Calls Tryz.prog 68 #[.int .i64 (-(N : Int))] w fun e w' => e = .returned (.string ⟨(decL (-(N : Int))).toArray⟩) ∧ Below w.heap.size w w' := by
  have H1 := Lib.hid h1
  clear h1
  go_enter Tryz.func68, Tryz.ntmps68
  go_wp2
  go_loopw [0, 3, 5, 6] (fun n b k _ wr => ∃ (m : Nat) (acc : List UInt8), n = .int .i64 (-(m : Int)) ∧ k = .int .i64 acc.length ∧ Own wr w.heap.size b acc ∧ Hid (RDec N m acc) ∧ Below w.heap.size w wr) (fun n _ k _ _ => 20 - (intOf k).toNat)
  case atStart => exact ⟨N, [], rfl, rfl, Own.nil _ _, Lib.hid (.inl (DecAt.start (by have := H1.out; unfold InI64 at this; omega))), Below.refl _ _⟩
  case round =>
    obtain ⟨m, acc, rfl, rfl, hO, hR, hbel⟩ := hrel
    rcases hR.out with hD | ⟨rfl, ha1, ha2, ha3⟩
    · have hlen := hD.len
      have HD := Lib.hid hD
      have hw := wrap_ndiv hD
      have HN := RDec.step hD
      clear hD
      by_cases hm : m = 0
      · have hm1 : (-(m : Int) != 0) = false := by simp [hm]
        have hm2 : ((acc.length : Int) == 0) = true := by rcases HD.out.2.2 with h | h <;> simp [h] ; omega
        have hd : ¬ 0 < (m : Int) % 10 := by omega
        clear hm
        go_wp2_with (at_builtin; refine wpList_append_bytes _ rfl _ _ rfl w.heap.size _ [digB m] rfl (Own.fresh _ _ _ _ (by have := dig_toNat m; omega) hbel.size) _ acc rfl (hO.alloc _) (by simp; omega) (by have := hbel.size; simp; omega) ?_; intro v' w1 hO1 hb1)
        go_roundw
        case rel => exact ⟨m / 10, digB m :: acc, by go_num, by go_num, hO1, HN, (hbel.alloc hbel.size _).trans hb1⟩
        case measure => simp [intOf]; omega
      · have hm1 : (-(m : Int) != 0) = true := by simp [hm]
        clear hm
        by_cases hd : 0 < (m : Int) % 10
        all_goals
          go_wp2_with (at_builtin; refine wpList_append_bytes _ rfl _ _ rfl w.heap.size _ [digB m] rfl (Own.fresh _ _ _ _ (by have := dig_toNat m; omega) hbel.size) _ acc rfl (hO.alloc _) (by simp; omega) (by have := hbel.size; simp; omega) ?_; intro v' w1 hO1 hb1)
          go_roundw
          case rel => exact ⟨m / 10, digB m :: acc, by go_num, by go_num, hO1, HN, (hbel.alloc hbel.size _).trans hb1⟩
          case measure => simp [intOf]; omega
    · have hst := hO.str
      have hm2 : ((acc.length : Int) == 0) = false := by simp; intro h; simp [h] at ha1
      have HA := Lib.hid ha3
      clear ha3
      go_wp2
      go_ret
      exact ⟨by rw [decL, if_pos (by omega), show (-(N : Int)).natAbs = N from by omega, HA.out]; rfl, hbel⟩
theorem rDecimal_any (n : Int) (w : World) (h1 : InI64 n) :
    Calls Tryz.prog 68 #[.int .i64 n] w fun e w' => e = .returned (.string ⟨(decL n).toArray⟩) ∧ Below w.heap.size w w' := by
  by_cases h : 0 ≤ n
  · exact rDecimal_pos n w h h1
  · obtain ⟨N, rfl⟩ : ∃ N : Nat, n = -(N : Int) := ⟨n.natAbs, by omega⟩
    exact rDecimal_neg N w (by omega) h1
end
section
open Go.RowKit
theorem decF_size : ∀ f m acc, (decF f m acc).length ≤ f + acc.length := fun f => by
  induction f with
  | zero => intro m acc; simp [decF]
  | succ f ih =>
    intro m acc
    unfold decF; split
    · simp; omega
    · have := ih (m / 10) (digB m :: acc)
      simp at this; omega
theorem decL_len (n : Int) : (decL n).length ≤ 21 := by
  unfold decL; split
  · have := decF_size 20 n.natAbs []; simp at this ⊢; omega
  · have := decF_size 20 n.natAbs []; simp at this ⊢; omega
theorem fv_bs (n : Int) : (⟨#[72, 84, 84, 80, 47, 49, 46]⟩ : ByteArray) ++ ⟨(decL n).toArray⟩ = bs (http7 ++ decL n) := by
  apply ByteArray.ext
  rw [ByteArray.data_append]
  simp [bs, http7]
theorem fv_size (n : Int) : (bs (http7 ++ decL n)).size ≤ 28 := by rw [bs_size, List.length_append]; have := decL_len n; simp [http7]; omega
theorem formatVersion_any (n : Int) (w : World) (h1 : Box (InI64 n)) :
    Calls Tryz.prog 61 #[.int .i64 n] w fun e w' => e = .returned (.string (bs (http7 ++ decL n))) ∧ Below w.heap.size w w' := by
  have hd := decL_len n
  go_enter Tryz.func61, Tryz.ntmps61
  go_wp2_with fail
  refine (Decimal_any _ _ h1.out).mono ?_; rintro e w1 ⟨rfl, hb1⟩
  go_wp2
  go_ret
  refine ⟨?_, hb1⟩
  show Ending.returned (.string ((⟨#[72, 84, 84, 80, 47, 49, 46]⟩ : ByteArray) ++ ⟨(decL n).toArray⟩)) = _
  rw [fv_bs]
theorem line_bs (m t : ByteArray) (n : Int) : m ++ ⟨#[32]⟩ ++ t ++ ⟨#[32]⟩ ++ bs (http7 ++ decL n) = bs (reqLine m.data.toList t.data.toList n) := by
  apply ByteArray.ext
  simp [ByteArray.data_append, bs, reqLine]
theorem line_size (m t : ByteArray) (n : Int) (hm : m.size ≤ 3000) (ht : t.size ≤ 3000) : (bs (reqLine m.data.toList t.data.toList n)).size ≤ maxLen := by
  have h1 := len_of m
  have h2 := len_of t
  have h3 := decL_len n
  rw [bs_size]; unfold maxLen; simp [reqLine, http7]; omega
theorem reqV_mk (a b : List UInt8) (v e : Int) : reqV (a, b, v, e) = .tuple #[.string (bs a), .string (bs b), .int .i64 v, .int .i64 e] := rfl
theorem fmtReq_no {m t a b : List UInt8} {n v e : Int} (h : reqL (reqLine m t n) = (a, b, v, e)) (hn : ¬ (a, b, v, e) = (m, t, n, 0)) : fmtReqL m t n = [] := by
  unfold fmtReqL; rw [if_neg (by rw [h]; exact hn)]
theorem FormatRequest_yes (m t : ByteArray) (n : Int) (w : World) (hm : m.size ≤ 3000) (ht : t.size ≤ 3000) (h1 : Box (InI64 n)) (HQ : Box (reqL (reqLine m.data.toList t.data.toList n) = (m.data.toList, t.data.toList, n, 0))) :
    Calls Tryz.prog 36 #[.string m, .string t, .int .i64 n] w fun e w' => e = .returned (.string (bs (fmtReqL m.data.toList t.data.toList n))) ∧ Below w.heap.size w w' := by
  have hv := fv_size n
  have HZ := box (line_size m t n hm ht)
  go_enter Tryz.func36, Tryz.ntmps36
  go_wp2_with fail
  refine (formatVersion_any _ _ h1).mono ?_; rintro e w1 ⟨rfl, hb1⟩
  go_wp2_with fail
  rw [line_bs]
  refine (ParseRequest_any _ _ HZ.out).mono ?_; rintro e w2 ⟨rfl, hb2⟩; rw [bs_toList, HQ.out, reqV_mk, ← bs_of, ← bs_of]
  go_wp2
  go_ret
  refine ⟨?_, hb1.trans (hb2.mono hb1.size)⟩
  unfold fmtReqL; rw [if_pos HQ.out]; rfl
theorem FormatRequest_no (m t : ByteArray) (n : Int) (w : World) (hm : m.size ≤ 3000) (ht : t.size ≤ 3000) (h1 : Box (InI64 n)) (a b : List UInt8) (v e0 : Int) (HQ : Box (reqL (reqLine m.data.toList t.data.toList n) = (a, b, v, e0))) (HN : Box (¬ (a, b, v, e0) = (m.data.toList, t.data.toList, n, 0))) :
    Calls Tryz.prog 36 #[.string m, .string t, .int .i64 n] w fun e w' => e = .returned (.string (bs (fmtReqL m.data.toList t.data.toList n))) ∧ Below w.heap.size w w' := by
  have hv := fv_size n
  have HZ := box (line_size m t n hm ht)
  go_enter Tryz.func36, Tryz.ntmps36
  go_wp2_with fail
  refine (formatVersion_any _ _ h1).mono ?_; rintro e w1 ⟨rfl, hb1⟩
  go_wp2_with fail
  rw [line_bs]
  refine (ParseRequest_any _ _ HZ.out).mono ?_; rintro e w2 ⟨rfl, hb2⟩; rw [bs_toList, HQ.out, reqV_mk]
  have b2 := hb1.trans (hb2.mono hb1.size)
  clear hb1 hb2
  go_wp2
  · go_ret
    exact ⟨by rw [fmtReq_no HQ.out HN.out]; rfl, b2⟩
  · have e1 : e0 = 0 := by assumption
    have e2 : (bs a).toList = m.toList := by assumption
    have e3 : (bs b).toList = t.toList := by assumption
    have e4 : (v != n) = false := by assumption
    rw [toList_bs, toList_data] at e2 e3
    exact absurd (by rw [e1, e2, e3, show v = n from by simpa using e4]) HN.out
  all_goals
    go_ret
    exact ⟨by rw [fmtReq_no HQ.out HN.out]; rfl, b2⟩
theorem FormatRequest_any (m t : ByteArray) (n : Int) (w : World) (hm : m.size ≤ 3000) (ht : t.size ≤ 3000) (h1 : Box (InI64 n)) :
    Calls Tryz.prog 36 #[.string m, .string t, .int .i64 n] w fun e w' => e = .returned (.string (bs (fmtReqL m.data.toList t.data.toList n))) ∧ Below w.heap.size w w' := by
  obtain ⟨a, b, v, e0, hq⟩ : ∃ a b v e0, reqL (reqLine m.data.toList t.data.toList n) = (a, b, v, e0) := ⟨_, _, _, _, rfl⟩
  by_cases h : (a, b, v, e0) = (m.data.toList, t.data.toList, n, 0)
  · exact FormatRequest_yes m t n w hm ht h1 (box (hq.trans h))
  · exact FormatRequest_no m t n w hm ht h1 a b v e0 (box hq) (box h)
theorem rline_bs (m t : ByteArray) (n : Int) : m ++ ⟨#[32]⟩ ++ t ++ ⟨#[32, 72, 84, 84, 80, 47, 49, 46]⟩ ++ ⟨(decL n).toArray⟩ = bs (reqLine m.data.toList t.data.toList n) := by
  apply ByteArray.ext
  simp [ByteArray.data_append, bs, reqLine, http7]
theorem rFormatRequest_yes (m t : ByteArray) (n : Int) (w : World) (h0 : 0 ≤ n) (hn1 : n ≤ 1) (hm : m.size ≤ 2000) (ht : t.size ≤ 2000) (h1 : Box (InI64 n)) (HQ : Box (reqL (reqLine m.data.toList t.data.toList n) = (m.data.toList, t.data.toList, n, 0))) :
    Calls Tryz.prog 40 #[.string m, .string t, .int .i64 n] w fun e w' => e = .returned (.string (bs (fmtReqL m.data.toList t.data.toList n))) ∧ Below w.heap.size w w' := by
  have hv := decL_len n
  have HZ := box (line_size m t n (by omega) (by omega))
  go_enter Tryz.func40, Tryz.ntmps40
  go_wp2_with fail
  refine (rDecimal_any _ _ h1.out).mono ?_; rintro e w1 ⟨rfl, hb1⟩
  go_wp2_with fail
  rw [rline_bs]
  refine (rParseRequest_any _ _ HZ.out).mono ?_; rintro e w2 ⟨rfl, hb2⟩; rw [bs_toList, HQ.out, reqV_mk, ← bs_of, ← bs_of]
  go_wp2
  go_ret
  refine ⟨?_, hb1.trans (hb2.mono hb1.size)⟩
  unfold fmtReqL; rw [if_pos HQ.out]; rfl
theorem rFormatRequest_no (m t : ByteArray) (n : Int) (w : World) (h0 : 0 ≤ n) (hn1 : n ≤ 1) (hm : m.size ≤ 2000) (ht : t.size ≤ 2000) (h1 : Box (InI64 n)) (a b : List UInt8) (v e0 : Int) (HQ : Box (reqL (reqLine m.data.toList t.data.toList n) = (a, b, v, e0))) (HN : Box (¬ (a, b, v, e0) = (m.data.toList, t.data.toList, n, 0))) :
    Calls Tryz.prog 40 #[.string m, .string t, .int .i64 n] w fun e w' => e = .returned (.string (bs (fmtReqL m.data.toList t.data.toList n))) ∧ Below w.heap.size w w' := by
  have hv := decL_len n
  have HZ := box (line_size m t n (by omega) (by omega))
  go_enter Tryz.func40, Tryz.ntmps40
  go_wp2_with fail
  refine (rDecimal_any _ _ h1.out).mono ?_; rintro e w1 ⟨rfl, hb1⟩
  go_wp2_with fail
  rw [rline_bs]
  refine (rParseRequest_any _ _ HZ.out).mono ?_; rintro e w2 ⟨rfl, hb2⟩; rw [bs_toList, HQ.out, reqV_mk]
  have b2 := hb1.trans (hb2.mono hb1.size)
  clear hb1 hb2
  go_wp2
  · go_ret
    exact ⟨by rw [fmtReq_no HQ.out HN.out]; rfl, b2⟩
  · have e1 : e0 = 0 := by assumption
    have e2 : (bs a).toList = m.toList := by assumption
    have e3 : (bs b).toList = t.toList := by assumption
    have e4 : (v != n) = false := by assumption
    rw [toList_bs, toList_data] at e2 e3
    exact absurd (by rw [e1, e2, e3, show v = n from by simpa using e4]) HN.out
  all_goals
    go_ret
    exact ⟨by rw [fmtReq_no HQ.out HN.out]; rfl, b2⟩
theorem rFormatRequest_any (m t : ByteArray) (n : Int) (w : World) (hm : m.size ≤ 3000) (ht : t.size ≤ 3000) (h1 : Box (InI64 n)) :
    Calls Tryz.prog 40 #[.string m, .string t, .int .i64 n] w fun e w' => e = .returned (.string (bs (fmtReqL m.data.toList t.data.toList n))) ∧ Below w.heap.size w w' := by
  by_cases h0 : n < 0
  · go_enter Tryz.func40, Tryz.ntmps40
    go_wp2
    go_ret
    exact ⟨by rw [fmtReq_min (.inl h0)]; rfl, Below.refl _ _⟩
  · by_cases h2 : 1 < n
    · go_enter Tryz.func40, Tryz.ntmps40
      go_wp2
      go_ret
      exact ⟨by rw [fmtReq_min (.inr h2)]; rfl, Below.refl _ _⟩
    · by_cases h3 : 2000 < m.size
      · go_enter Tryz.func40, Tryz.ntmps40
        go_wp2
        go_ret
        exact ⟨by rw [fmtReq_long (.inl (long_of h3))]; rfl, Below.refl _ _⟩
      · by_cases h4 : 2000 < t.size
        · go_enter Tryz.func40, Tryz.ntmps40
          go_wp2
          go_ret
          exact ⟨by rw [fmtReq_long (.inr (long_of h4))]; rfl, Below.refl _ _⟩
        · obtain ⟨a, b, v, e0, hq⟩ : ∃ a b v e0, reqL (reqLine m.data.toList t.data.toList n) = (a, b, v, e0) := ⟨_, _, _, _, rfl⟩
          by_cases h : (a, b, v, e0) = (m.data.toList, t.data.toList, n, 0)
          · exact rFormatRequest_yes m t n w (by omega) (by omega) (by omega) (by omega) h1 (box (hq.trans h))
          · exact rFormatRequest_no m t n w (by omega) (by omega) (by omega) (by omega) h1 a b v e0 (box hq) (box h)
end
section
open Go.RowKit
theorem sline_bs (n s : Int) (r : ByteArray) : bs (http7 ++ decL n) ++ ⟨#[32]⟩ ++ ⟨(decL s).toArray⟩ ++ ⟨#[32]⟩ ++ r = bs (staLine n s r.data.toList) := by
  apply ByteArray.ext
  simp [ByteArray.data_append, bs, staLine]
theorem rsline_bs (n s : Int) (r : ByteArray) : (⟨#[72, 84, 84, 80, 47, 49, 46]⟩ : ByteArray) ++ ⟨(decL n).toArray⟩ ++ ⟨#[32]⟩ ++ ⟨(decL s).toArray⟩ ++ ⟨#[32]⟩ ++ r = bs (staLine n s r.data.toList) := by
  apply ByteArray.ext
  simp [ByteArray.data_append, bs, staLine, http7]
theorem sline_size (n s : Int) (r : ByteArray) (hr : r.size ≤ 3000) : (bs (staLine n s r.data.toList)).size ≤ maxLen := by
  have h1 := len_of r
  have h2 := decL_len n
  have h3 := decL_len s
  rw [bs_size]; unfold maxLen; simp [staLine, http7]; omega
theorem staV_mk (a b : Int) (c : List UInt8) (e : Int) : staV (a, b, c, e) = .tuple #[.int .i64 a, .int .i64 b, .string (bs c), .int .i64 e] := rfl
theorem fmtSta_not {n s a b e : Int} {r c : List UInt8} (h : staL (staLine n s r) = (a, b, c, e)) (hn : ¬ (a, b, c, e) = (n, s, r, 0)) : fmtStaL n s r = [] := by
  unfold fmtStaL; rw [if_neg (by rw [h]; exact hn)]
theorem FormatStatus_yes (n s : Int) (r : ByteArray) (w : World) (hr : r.size ≤ 3000) (h1 : Box (InI64 n)) (h2 : Box (InI64 s)) (HQ : Box (staL (staLine n s r.data.toList) = (n, s, r.data.toList, 0))) :
    Calls Tryz.prog 41 #[.int .i64 n, .int .i64 s, .string r] w fun e w' => e = .returned (.string (bs (fmtStaL n s r.data.toList))) ∧ Below w.heap.size w w' := by
  have hv := fv_size n
  have hd := decL_len s
  have HZ := box (sline_size n s r hr)
  go_enter Tryz.func41, Tryz.ntmps41
  go_wp2_with fail
  refine (formatVersion_any _ _ h1).mono ?_; rintro e w1 ⟨rfl, hb1⟩
  go_wp2_with fail
  refine (Decimal_any _ _ h2.out).mono ?_; rintro e w2 ⟨rfl, hb2⟩
  have b2 := hb1.trans (hb2.mono hb1.size)
  clear hb1 hb2
  go_wp2_with fail
  rw [sline_bs]
  refine (ParseStatus_any _ _ HZ.out).mono ?_; rintro e w3 ⟨rfl, hb3⟩; rw [bs_toList, HQ.out, staV_mk, ← bs_of]
  go_wp2
  go_ret
  refine ⟨?_, b2.trans (hb3.mono b2.size)⟩
  unfold fmtStaL; rw [if_pos HQ.out]; rfl
theorem FormatStatus_no (n s : Int) (r : ByteArray) (w : World) (hr : r.size ≤ 3000) (h1 : Box (InI64 n)) (h2 : Box (InI64 s)) (a b e0 : Int) (c : List UInt8) (HQ : Box (staL (staLine n s r.data.toList) = (a, b, c, e0))) (HN : Box (¬ (a, b, c, e0) = (n, s, r.data.toList, 0))) :
    Calls Tryz.prog 41 #[.int .i64 n, .int .i64 s, .string r] w fun e w' => e = .returned (.string (bs (fmtStaL n s r.data.toList))) ∧ Below w.heap.size w w' := by
  have hv := fv_size n
  have hd := decL_len s
  have HZ := box (sline_size n s r hr)
  go_enter Tryz.func41, Tryz.ntmps41
  go_wp2_with fail
  refine (formatVersion_any _ _ h1).mono ?_; rintro e w1 ⟨rfl, hb1⟩
  go_wp2_with fail
  refine (Decimal_any _ _ h2.out).mono ?_; rintro e w2 ⟨rfl, hb2⟩
  have b2 := hb1.trans (hb2.mono hb1.size)
  clear hb1 hb2
  go_wp2_with fail
  rw [sline_bs]
  refine (ParseStatus_any _ _ HZ.out).mono ?_; rintro e w3 ⟨rfl, hb3⟩; rw [bs_toList, HQ.out, staV_mk]
  have b3 := b2.trans (hb3.mono b2.size)
  clear b2 hb3
  go_wp2
  · go_ret
    exact ⟨by rw [fmtSta_not HQ.out HN.out]; rfl, b3⟩
  · have e1 : e0 = 0 := by assumption
    have e2 : a = n := by assumption
    have e3 : b = s := by assumption
    have e4 : (!(bs c).toList == r.toList) = false := by assumption
    rw [toList_bs, toList_data] at e4
    exact absurd (by rw [e1, e2, e3, show c = r.data.toList from by simpa using e4]) HN.out
  all_goals
    go_ret
    exact ⟨by rw [fmtSta_not HQ.out HN.out]; rfl, b3⟩
theorem FormatStatus_any (n s : Int) (r : ByteArray) (w : World) (hr : r.size ≤ 3000) (h1 : Box (InI64 n)) (h2 : Box (InI64 s)) :
    Calls Tryz.prog 41 #[.int .i64 n, .int .i64 s, .string r] w fun e w' => e = .returned (.string (bs (fmtStaL n s r.data.toList))) ∧ Below w.heap.size w w' := by
  obtain ⟨a, b, c, e0, hq⟩ : ∃ a b c e0, staL (staLine n s r.data.toList) = (a, b, c, e0) := ⟨_, _, _, _, rfl⟩
  by_cases h : (a, b, c, e0) = (n, s, r.data.toList, 0)
  · exact FormatStatus_yes n s r w hr h1 h2 (box (hq.trans h))
  · exact FormatStatus_no n s r w hr h1 h2 a b e0 c (box hq) (box h)
theorem rFormatStatus_in (n s : Int) (r : ByteArray) (w : World) (hr : r.size ≤ 2000) (g0 : 0 ≤ n) (g1 : n ≤ 1) (g2 : 100 ≤ s) (g3 : s ≤ 599) (h1 : Box (InI64 n)) (h2 : Box (InI64 s)) :
    Calls Tryz.prog 42 #[.int .i64 n, .int .i64 s, .string r] w fun e w' => e = .returned (.string (bs (fmtStaL n s r.data.toList))) ∧ Below w.heap.size w w' := by
  have hv := decL_len n
  have hd := decL_len s
  have HZ := box (sline_size n s r (by omega))
  obtain ⟨a, b, c, e0, hq⟩ : ∃ a b c e0, staL (staLine n s r.data.toList) = (a, b, c, e0) := ⟨_, _, _, _, rfl⟩
  have HQ := box hq
  clear hq
  by_cases he : e0 = 0
  · subst he
    have HF := box (fmtSta_ok (r := r.data.toList) g0 g1 g2 g3 (by rw [HQ.out]))
    go_enter Tryz.func42, Tryz.ntmps42
    go_wp2_with fail
    refine (rDecimal_any _ _ h1.out).mono ?_; rintro e w1 ⟨rfl, hb1⟩
    go_wp2_with fail
    refine (rDecimal_any _ _ h2.out).mono ?_; rintro e w2 ⟨rfl, hb2⟩
    have b2 := hb1.trans (hb2.mono hb1.size)
    clear hb1 hb2
    go_wp2_with fail
    rw [rsline_bs]
    refine (rParseStatus_any _ _ HZ.out).mono ?_; rintro e w3 ⟨rfl, hb3⟩; rw [bs_toList, HQ.out, staV_mk]
    have b3 := b2.trans (hb3.mono b2.size)
    clear b2 hb3
    go_wp2
    go_ret
    exact ⟨by rw [HF.out]; rfl, b3⟩
  · have HF := box (fmtSta_no (r := r.data.toList) (n := n) (s := s) (by rw [HQ.out]; exact he))
    have hE2 := bne0 he
    clear he
    go_enter Tryz.func42, Tryz.ntmps42
    go_wp2_with fail
    refine (rDecimal_any _ _ h1.out).mono ?_; rintro e w1 ⟨rfl, hb1⟩
    go_wp2_with fail
    refine (rDecimal_any _ _ h2.out).mono ?_; rintro e w2 ⟨rfl, hb2⟩
    have b2 := hb1.trans (hb2.mono hb1.size)
    clear hb1 hb2
    go_wp2_with fail
    rw [rsline_bs]
    refine (rParseStatus_any _ _ HZ.out).mono ?_; rintro e w3 ⟨rfl, hb3⟩; rw [bs_toList, HQ.out, staV_mk]
    have b3 := b2.trans (hb3.mono b2.size)
    clear b2 hb3
    go_wp2
    go_ret
    exact ⟨by rw [HF.out]; rfl, b3⟩
theorem rFormatStatus_any (n s : Int) (r : ByteArray) (w : World) (hr : r.size ≤ 3000) (h1 : Box (InI64 n)) (h2 : Box (InI64 s)) :
    Calls Tryz.prog 42 #[.int .i64 n, .int .i64 s, .string r] w fun e w' => e = .returned (.string (bs (fmtStaL n s r.data.toList))) ∧ Below w.heap.size w w' := by
  by_cases q0 : n < 0
  · go_enter Tryz.func42, Tryz.ntmps42
    go_wp2
    go_ret
    exact ⟨by rw [fmtSta_out (.inl q0)]; rfl, Below.refl _ _⟩
  · by_cases q1 : 1 < n
    · go_enter Tryz.func42, Tryz.ntmps42
      go_wp2
      go_ret
      exact ⟨by rw [fmtSta_out (.inr (.inl q1))]; rfl, Below.refl _ _⟩
    · by_cases q2 : s < 100
      · go_enter Tryz.func42, Tryz.ntmps42
        go_wp2
        go_ret
        exact ⟨by rw [fmtSta_out (.inr (.inr (.inl q2)))]; rfl, Below.refl _ _⟩
      · by_cases q3 : 599 < s
        · go_enter Tryz.func42, Tryz.ntmps42
          go_wp2
          go_ret
          exact ⟨by rw [fmtSta_out (.inr (.inr (.inr (.inl q3))))]; rfl, Below.refl _ _⟩
        · by_cases q4 : 2000 < r.size
          · go_enter Tryz.func42, Tryz.ntmps42
            go_wp2
            go_ret
            exact ⟨by rw [fmtSta_out (.inr (.inr (.inr (.inr (long_of q4)))))]; rfl, Below.refl _ _⟩
          · exact rFormatStatus_in n s r w (by omega) (by omega) (by omega) (by omega) (by omega) h1 h2
end
section
open Go.RowKit
theorem rValid6_is {p : F} {b : Bool} {w : World} (N : Box (p.1.size ≤ 65536)) (V : Box (p.2.size ≤ 65536)) (h : Box (validF p = b)) :
    Calls Tryz.prog 66 #[.agg #[.string p.1, .string p.2]] w fun e w' => e = .returned (.bool b) ∧ Below w.heap.size w w' :=
  (rValidField_any p.1 p.2 w N V).mono fun e w' ⟨h1, h2⟩ => ⟨by rw [h1]; exact ret_bool h.out, h2⟩
theorem rform_is {p : F} {x : ByteArray} {w : World} (N : Box (p.1.size ≤ 65536)) (V : Box (p.2.size ≤ 65536)) (h : Box (bs (lineL p.1.data.toList p.2.data.toList) = x)) :
    Calls Tryz.prog 67 #[.agg #[.string p.1, .string p.2]] w fun e w' => e = .returned (.string x) ∧ Below w.heap.size w w' :=
  (rform_any p.1 p.2 w N V).mono fun e w' ⟨h1, h2⟩ => ⟨by rw [h1, h.out], h2⟩
theorem rDec_is {n : Int} {x : ByteArray} {w : World} (h1 : Box (InI64 n)) (h : Box (bs (decL n) = x)) :
    Calls Tryz.prog 68 #[.int .i64 n] w fun e w' => e = .returned (.string x) ∧ Below w.heap.size w w' :=
  (rDecimal_any n w h1.out).mono fun e w' ⟨h1, h2⟩ => ⟨by rw [h1, ← h.out]; rfl, h2⟩
theorem rUnfr_is {a : Option Addr} {cap : Nat} {L U : List F} {w : World} (S : Box (Sm L)) (hF : Box (Fs w a L)) (hU : Box (unfrL L = U)) :
    Calls Tryz.prog 24 #[.slice a L.length cap] w fun e w' => ∃ a2 cap2, e = .returned (.slice a2 U.length cap2) ∧ Fs w' a2 U ∧ Below w.heap.size w w' :=
  (rUnframed_any a cap L w S hF).mono fun e w' ⟨v, h1, h2, h3⟩ => by
    rw [hU.out] at h2
    obtain ⟨a2, cap2, rfl, hF2, _⟩ := h2.fs
    exact ⟨a2, cap2, h1, hF2, h3⟩
theorem flat_snoc {U : List F} {k : Nat} (h : k < U.length) : flatL (U.take (k + 1)) = flatL (U.take k) ++ (lineL U[k].1.data.toList U[k].2.data.toList ++ [13, 10]) := by
  unfold flatL; rw [take_next h, List.flatMap_append]; simp
theorem join_no {st : List UInt8} {L0 U : List F} {b : List UInt8} {length whole : Bool} (hU : unfrL L0 = U) (h : st = [] ∨ 63 < U.length ∨ 100000 < b.length ∨ U.all validF = false) : joinedL st L0 b length whole = [] := by
  unfold joinedL; simp only [hU]; rw [if_pos h]
theorem join_yes {st : List UInt8} {L0 U : List F} {b : List UInt8} {length whole : Bool} (hU : unfrL L0 = U) (h : ¬ (st = [] ∨ 63 < U.length ∨ 100000 < b.length ∨ U.all validF = false)) :
    joinedL st L0 b length whole = if 16000 < (outL6 st U b.length length).length then [] else outL6 st U b.length length ++ (if whole = true then b else []) := by
  unfold joinedL; simp only [hU]; rw [if_neg h]
theorem not_all {U : List F} {k : Nat} (h : k < U.length) (hv : validF U[k] = false) : U.all validF = false := by
  rw [List.all_eq_false]
  exact ⟨U[k], List.getElem_mem h, by rw [hv]; simp⟩
theorem line_le (p : F) (h1 : p.1.size ≤ 65536) (h2 : p.2.size ≤ 65536) : (bs (lineL p.1.data.toList p.2.data.toList)).size ≤ 131074 := by
  rw [bs_size, lineN_eq]
  unfold lineN
  have e1 : p.1.data.toList.length = p.1.size := by simp
  have e2 : p.2.data.toList.length = p.2.size := by simp
  split <;> omega
def JRel (st : ByteArray) (U : List F) (w : World) (o i : Value) (wr : World) : Prop := ∃ (k : Nat) (x : ByteArray), i = .int .i64 k ∧ o = .string x ∧ k ≤ U.length ∧ x.data.toList = st.data.toList ++ [13, 10] ++ flatL (U.take k) ∧ x.size ≤ 100010 + 131080 * k ∧ (U.take k).all validF = true ∧ Below w.heap.size w wr
set_option maxRecDepth 100000 in
set_option maxHeartbeats 4000000 in
theorem rJoin_no (st : ByteArray) (a : Option Addr) (cap : Nat) (L U : List F) (b : ByteArray) (ln wh : Bool) (w : World) (hst : st.size ≤ 100000) (hb : b.size ≤ 1000000) (S : Box (Sm L)) (hF : Box (Fs w a L)) (hU : Box (unfrL L = U)) (HX : st.toList.isEmpty = true ∨ (st.toList.isEmpty = false ∧ 63 < U.length) ∨ (st.toList.isEmpty = false ∧ ¬ 63 < U.length ∧ 100000 < b.size)) :
    Calls Tryz.prog 39 #[.string st, .slice a L.length cap, .string b, .bool ln, .bool wh] w fun e w' => e = .returned (.string (bs (joinedL st.data.toList L b.data.toList ln wh))) ∧ Below w.heap.size w w' := by
  have HE : Box (joinedL st.data.toList L b.data.toList ln wh = []) := box (join_no hU.out (by
    rcases HX with h | ⟨_, h⟩ | ⟨_, _, h⟩
    · exact .inl (nil_of_empty h)
    · exact .inr (.inl h)
    · exact .inr (.inr (.inl (by simpa using h)))))
  rcases HX with h | ⟨h0, h⟩ | ⟨h0, h1, h⟩
  · skip
    go_enter Tryz.func39, Tryz.ntmps39
    go_wp2_with fail
    refine (rUnfr_is S hF hU).mono ?_; rintro e w1 ⟨a1, cap1, rfl, hF1, hb1⟩
    go_wp2
    go_ret
    exact ⟨by rw [HE.out]; rfl, hb1⟩
  · have hi : (63 : Int) < (U.length : Int) := by omega
    go_enter Tryz.func39, Tryz.ntmps39
    go_wp2_with fail
    refine (rUnfr_is S hF hU).mono ?_; rintro e w1 ⟨a1, cap1, rfl, hF1, hb1⟩
    go_wp2
    go_ret
    exact ⟨by rw [HE.out]; rfl, hb1⟩
  · have hi : ¬ (63 : Int) < (U.length : Int) := by omega
    have hi2 : (100000 : Int) < (b.size : Int) := by omega
    go_enter Tryz.func39, Tryz.ntmps39
    go_wp2_with fail
    refine (rUnfr_is S hF hU).mono ?_; rintro e w1 ⟨a1, cap1, rfl, hF1, hb1⟩
    go_wp2
    go_ret
    exact ⟨by rw [HE.out]; rfl, hb1⟩
set_option maxRecDepth 100000 in
set_option maxHeartbeats 4000000 in
theorem rJoin_in (st : ByteArray) (a : Option Addr) (cap : Nat) (L U : List F) (b : ByteArray) (ln wh : Bool) (w : World) (hst : st.size ≤ 100000) (hb : b.size ≤ 1000000) (S : Box (Sm L)) (hF : Box (Fs w a L)) (hU : Box (unfrL L = U)) (h0 : st.toList.isEmpty = false) (h63 : ¬ 63 < U.length) (hb5 : ¬ 100000 < b.size) :
    Calls Tryz.prog 39 #[.string st, .slice a L.length cap, .string b, .bool ln, .bool wh] w fun e w' => e = .returned (.string (bs (joinedL st.data.toList L b.data.toList ln wh))) ∧ Below w.heap.size w w' := by
  have hi : ¬ (63 : Int) < (U.length : Int) := by omega
  have hi2 : ¬ (100000 : Int) < (b.size : Int) := by omega
  have hbl : b.data.toList.length = b.size := by simp
  have SU : Box (Sm U) := box (by rw [← hU.out]; exact sm_rem (sm_rem S.out))
  have r0 : ∀ w, (Op.stringOp .add st ⟨#[13, 10]⟩).run Tryz.prog w = .ok (.string (st ++ ⟨#[13, 10]⟩)) w := fun w => run_string_add_sum w _ _ (by show st.size + 2 ≤ 9223372036854775807; omega)
  have hs0 : (st ++ ⟨#[13, 10]⟩ : ByteArray).size ≤ 100010 := by rw [ByteArray.size_append]; show st.size + 2 ≤ 100010; omega
  have HS0 := box hs0
  clear hs0
  go_enter Tryz.func39, Tryz.ntmps39
  go_wp2_with fail
  refine (rUnfr_is S hF hU).mono ?_; rintro e w1 ⟨a1, cap1, rfl, hF1, hb1⟩
  have B1 := box hb1
  have F1 := box hF1
  clear hb1 hF1
  go_wp2
  go_loopw [11, 12] (fun o i wr => JRel st U w1 o i wr) (fun _ i _ => U.length - (intOf i).toNat)
  case atStart => exact ⟨0, _, rfl, rfl, Nat.zero_le _, by simp [ByteArray.data_append, flatL], HS0.out, rfl, Below.refl _ _⟩
  case round =>
    obtain ⟨k, x, rfl, rfl, hk, hX, hxs0, hall, hbel⟩ := hrel
    have HXE := box hX
    have HALL := box hall
    have BL := box hbel
    have F2 := box (F1.out.below hbel)
    clear hX hall hbel
    by_cases hlt : k < U.length
    · have hki : (k : Int) < (U.length : Int) := by omega
      obtain ⟨q, off, rfl, c0, c1⟩ := F2.out k hlt
      have N1 := box ((SU.out.2 k hlt).1)
      have V1 := box ((SU.out.2 k hlt).2)
      obtain ⟨y, hy⟩ : ∃ y, bs (lineL U[k].1.data.toList U[k].2.data.toList) = y := ⟨_, rfl⟩
      have hys : y.size ≤ 131074 := by rw [← hy]; exact line_le _ N1.out V1.out
      have HY := box hy
      clear hy
      rcases hv : validF U[k] with _ | _
      · have HV := box hv
        have HE : Box (joinedL st.data.toList L b.data.toList ln wh = []) := box (join_no hU.out (.inr (.inr (.inr (not_all hlt hv)))))
        clear hv
        go_wp2_with fail
        refine (rValid6_is N1 V1 HV).mono ?_; rintro e w2 ⟨rfl, hb2⟩
        have B2 := box (BL.out.trans (hb2.mono BL.out.size))
        clear hb2
        go_wp2
        go_ret
        exact ⟨by rw [HE.out]; rfl, B1.out.trans (B2.out.mono B1.out.size)⟩
      · have HV := box hv
        have hx9 : x.size ≤ 9000000 := by omega
        have r1 : ∀ w, (Op.stringOp .add y ⟨#[13, 10]⟩).run Tryz.prog w = .ok (.string (y ++ ⟨#[13, 10]⟩)) w := fun w => run_string_add_sum w _ _ (by show y.size + 2 ≤ 9223372036854775807; omega)
        have r2 : ∀ w, (Op.stringOp .add x (y ++ ⟨#[13, 10]⟩)).run Tryz.prog w = .ok (.string (x ++ (y ++ ⟨#[13, 10]⟩))) w := fun w => run_string_add_sum w _ _ (by rw [ByteArray.size_append]; show x.size + (y.size + 2) ≤ 9223372036854775807; omega)
        have HX2 : Box ((x ++ (y ++ ⟨#[13, 10]⟩)).data.toList = st.data.toList ++ [13, 10] ++ flatL (U.take (k + 1))) := box (by
          rw [flat_snoc hlt, ← HY.out]
          simp only [ByteArray.data_append, Array.toList_append, HXE.out, bs]
          simp)
        have HS2 : Box ((x ++ (y ++ ⟨#[13, 10]⟩)).size ≤ 100010 + 131080 * (k + 1)) := box (by rw [ByteArray.size_append, ByteArray.size_append]; show x.size + (y.size + 2) ≤ _; omega)
        have HA2 : Box ((U.take (k + 1)).all validF = true) := box (by rw [take_next hlt, List.all_append, HALL.out]; simp [hv])
        clear hv
        go_wp2_with fail
        refine (rValid6_is N1 V1 HV).mono ?_; rintro e w2 ⟨rfl, hb2⟩
        have B2 := box (BL.out.trans (hb2.mono BL.out.size))
        have e0 := (hb2.cell (cell_lt c0)).trans c0
        have e1 := (hb2.cell (cell_lt c1)).trans c1
        clear hb2 c0 c1
        go_wp2_with fail
        refine (rform_is N1 V1 HY).mono ?_; rintro e w3 ⟨rfl, hb3⟩
        have B3 := box (B2.out.trans (hb3.mono B2.out.size))
        clear hb3
        go_wp2
        go_roundw
        case rel => exact ⟨k + 1, _, by go_num, rfl, by omega, HX2.out, HS2.out, HA2.out, B3.out⟩
        case measure => simp [intOf]; omega
    · have hke : k = U.length := by omega
      rw [hke, List.take_length] at HXE HALL
      have hki : ¬ (k : Int) < (U.length : Int) := by omega
      have hxs : x.size ≤ 9000000 := by omega
      have HJ := box (join_yes (st := st.data.toList) (b := b.data.toList) (length := ln) (whole := wh) hU.out (by
        rintro (q | q | q | q)
        · exact ne_of_empty h0 q
        · omega
        · rw [hbl] at q; omega
        · rw [HALL.out] at q; cases q))
      clear hk hlt
      rcases ln with _ | _
      · skip
        obtain ⟨y, hy⟩ : ∃ y, x ++ ⟨#[13, 10]⟩ = y := ⟨_, rfl⟩
        have hys : y.size = x.size + 2 := by rw [← hy, ByteArray.size_append]; rfl
        have HY : Box (y.data.toList = outL6 st.data.toList U (b.size : Int) false) := box (by rw [← hy]; unfold outL6; simp only [ByteArray.data_append, Array.toList_append, HXE.out]; simp)
        have HYE := box hy
        have r4 : ∀ w, (Op.stringOp .add x ⟨#[13, 10]⟩).run Tryz.prog w = .ok (.string y) w := fun w => by rw [← HYE.out]; exact run_string_add_sum w _ _ (by show x.size + 2 ≤ 9223372036854775807; omega)
        rw [hbl] at HJ
        have hyl : y.data.toList.length = y.size := by simp
        rw [← HY.out, hyl] at HJ
        clear hy hyl
        by_cases h16 : 16000 < y.size
        · have h16i : (16000 : Int) < (y.size : Int) := by omega
          rw [if_pos h16] at HJ
          go_wp2
          go_ret
          exact ⟨by rw [HJ.out]; rfl, B1.out.trans (BL.out.mono B1.out.size)⟩
        · have h16i : ¬ (16000 : Int) < (y.size : Int) := by omega
          rw [if_neg h16] at HJ
          rcases wh with _ | _
          · rw [if_neg (by simp), List.append_nil] at HJ
            go_wp2
            go_ret
            exact ⟨by rw [HJ.out]; rfl, B1.out.trans (BL.out.mono B1.out.size)⟩
          · have r5 : ∀ w, (Op.stringOp .add y b).run Tryz.prog w = .ok (.string (y ++ b)) w := fun w => run_string_add_sum w _ _ (by omega)
            rw [if_pos rfl] at HJ
            go_wp2
            go_ret
            refine ⟨ret_str ?_, B1.out.trans (BL.out.mono B1.out.size)⟩
            rw [HJ.out]
            apply ByteArray.ext
            apply Array.toList_inj.mp
            simp [ByteArray.data_append, bs]
      · skip
        obtain ⟨d, hd⟩ : ∃ d, bs (decL (b.size : Int)) = d := ⟨_, rfl⟩
        have hds : d.size ≤ 21 := by rw [← hd, bs_size]; exact decL_len _
        have HD := box hd
        have HI : Box (InI64 (b.size : Int)) := box (by unfold InI64; omega)
        have r1 : ∀ w, (Op.stringOp .add (⟨#[67, 111, 110, 116, 101, 110, 116, 45, 76, 101, 110, 103, 116, 104, 58, 32]⟩ : ByteArray) d).run Tryz.prog w = .ok (.string ((⟨#[67, 111, 110, 116, 101, 110, 116, 45, 76, 101, 110, 103, 116, 104, 58, 32]⟩ : ByteArray) ++ d)) w := fun w => run_string_add_sum w _ _ (by show 16 + d.size ≤ 9223372036854775807; omega)
        have r2 : ∀ w, (Op.stringOp .add ((⟨#[67, 111, 110, 116, 101, 110, 116, 45, 76, 101, 110, 103, 116, 104, 58, 32]⟩ : ByteArray) ++ d) ⟨#[13, 10]⟩).run Tryz.prog w = .ok (.string ((⟨#[67, 111, 110, 116, 101, 110, 116, 45, 76, 101, 110, 103, 116, 104, 58, 32]⟩ : ByteArray) ++ d ++ ⟨#[13, 10]⟩)) w := fun w => run_string_add_sum w _ _ (by rw [ByteArray.size_append]; show 16 + d.size + 2 ≤ 9223372036854775807; omega)
        obtain ⟨z, hz⟩ : ∃ z, (⟨#[67, 111, 110, 116, 101, 110, 116, 45, 76, 101, 110, 103, 116, 104, 58, 32]⟩ : ByteArray) ++ d ++ ⟨#[13, 10]⟩ = z := ⟨_, rfl⟩
        have hzs : z.size ≤ 39 := by rw [← hz, ByteArray.size_append, ByteArray.size_append]; show 16 + d.size + 2 ≤ 39; omega
        have HZ : Box (z.data.toList = clenL (b.size : Int)) := box (by rw [← hz, ← hd]; simp [ByteArray.data_append, bs, clenL, clN])
        rw [hz] at r2
        clear hd hz
        obtain ⟨y, hy⟩ : ∃ y, x ++ z ++ ⟨#[13, 10]⟩ = y := ⟨_, rfl⟩
        have hys : y.size = x.size + z.size + 2 := by rw [← hy, ByteArray.size_append, ByteArray.size_append]; rfl
        have HY : Box (y.data.toList = outL6 st.data.toList U (b.size : Int) true) := box (by rw [← hy]; unfold outL6; simp only [ByteArray.data_append, Array.toList_append, HXE.out, HZ.out]; simp)
        have HYE := box hy
        have r3 : ∀ w, (Op.stringOp .add x z).run Tryz.prog w = .ok (.string (x ++ z)) w := fun w => run_string_add_sum w _ _ (by omega)
        have r4 : ∀ w, (Op.stringOp .add (x ++ z) ⟨#[13, 10]⟩).run Tryz.prog w = .ok (.string y) w := fun w => by rw [← HYE.out]; exact run_string_add_sum w _ _ (by rw [ByteArray.size_append]; show x.size + z.size + 2 ≤ 9223372036854775807; omega)
        rw [hbl] at HJ
        have hyl : y.data.toList.length = y.size := by simp
        rw [← HY.out, hyl] at HJ
        clear hy hyl
        by_cases h16 : 16000 < y.size
        · have h16i : (16000 : Int) < (y.size : Int) := by omega
          rw [if_pos h16] at HJ
          go_wp2_with fail
          refine (rDec_is HI HD).mono ?_; rintro e w3 ⟨rfl, hb3⟩
          have B3 := box (BL.out.trans (hb3.mono BL.out.size))
          clear hb3
          go_wp2
          go_ret
          exact ⟨by rw [HJ.out]; rfl, B1.out.trans (B3.out.mono B1.out.size)⟩
        · have h16i : ¬ (16000 : Int) < (y.size : Int) := by omega
          rw [if_neg h16] at HJ
          rcases wh with _ | _
          · rw [if_neg (by simp), List.append_nil] at HJ
            go_wp2_with fail
            refine (rDec_is HI HD).mono ?_; rintro e w3 ⟨rfl, hb3⟩
            have B3 := box (BL.out.trans (hb3.mono BL.out.size))
            clear hb3
            go_wp2
            go_ret
            exact ⟨by rw [HJ.out]; rfl, B1.out.trans (B3.out.mono B1.out.size)⟩
          · have r5 : ∀ w, (Op.stringOp .add y b).run Tryz.prog w = .ok (.string (y ++ b)) w := fun w => run_string_add_sum w _ _ (by omega)
            rw [if_pos rfl] at HJ
            go_wp2_with fail
            refine (rDec_is HI HD).mono ?_; rintro e w3 ⟨rfl, hb3⟩
            have B3 := box (BL.out.trans (hb3.mono BL.out.size))
            clear hb3
            go_wp2
            go_ret
            refine ⟨ret_str ?_, B1.out.trans (B3.out.mono B1.out.size)⟩
            rw [HJ.out]
            apply ByteArray.ext
            apply Array.toList_inj.mp
            simp [ByteArray.data_append, bs]
theorem rJoined_any (st : ByteArray) (a : Option Addr) (cap : Nat) (L : List F) (b : ByteArray) (ln wh : Bool) (w : World) (hst : st.size ≤ 100000) (hb : b.size ≤ 1000000) (S : Box (Sm L)) (hF : Box (Fs w a L)) :
    Calls Tryz.prog 39 #[.string st, .slice a L.length cap, .string b, .bool ln, .bool wh] w fun e w' => e = .returned (.string (bs (joinedL st.data.toList L b.data.toList ln wh))) ∧ Below w.heap.size w w' := by
  obtain ⟨U, hU⟩ : ∃ U, unfrL L = U := ⟨_, rfl⟩
  rcases h0 : st.toList.isEmpty with _ | _
  · by_cases h63 : 63 < U.length
    · exact rJoin_no st a cap L U b ln wh w hst hb S hF (box hU) (.inr (.inl ⟨h0, h63⟩))
    · by_cases h5 : 100000 < b.size
      · exact rJoin_no st a cap L U b ln wh w hst hb S hF (box hU) (.inr (.inr ⟨h0, h63, h5⟩))
      · exact rJoin_in st a cap L U b ln wh w hst hb S hF (box hU) h0 h63 h5
  · exact rJoin_no st a cap L U b ln wh w hst hb S hF (box hU) (.inl h0)
end
end Go.Proofs.YtjabcfabenobiaaGreat.Asc
