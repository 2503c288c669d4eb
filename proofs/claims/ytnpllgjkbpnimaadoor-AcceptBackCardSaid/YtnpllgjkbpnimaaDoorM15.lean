/- Merged texts: AccLaws3. -/
import Derived.Test.YtnpllgjkbpnimaaDoorM14
set_option linter.unusedVariables false
set_option linter.unusedSimpArgs false
set_option maxRecDepth 100000
namespace Go.Proofs.YtnpllgjkbpnimaaDoor.Asc
section
open Go.RowKit
theorem rHas13_is {a : Option Addr} {cap : Nat} {L : List F} {nm : ByteArray} {b : Bool} {w : World} (S : Box (Sm L)) (M : Box (nm.size ≤ 65536)) (hF : Fs w a L) (h : Box (L.any (nmd nm) = b)) :
    Calls Tryd.prog 16 #[.slice a L.length cap, .string nm] w fun e w' => e = .returned (.bool b) ∧ Below w.heap.size w w' :=
  (rHas_any a cap L nm w S.out.1 S M (box hF)).mono fun e w' ⟨h1, h2⟩ => ⟨by rw [h1, h.out], h2⟩
theorem keep_mem13 {L : List F} (h : keepF L = true) (nm : ByteArray) : ∀ m ∈ allL nm L, m.length ≤ 300 := by
  obtain ⟨_, h2⟩ := keep_parts h
  intro m hm
  obtain ⟨x, hx, hle⟩ := all_mem hm
  unfold getL at hx
  obtain ⟨p, hp, rfl⟩ := List.mem_map.1 hx
  obtain ⟨i, hi, rfl⟩ := List.getElem_of_mem (List.mem_filter.1 hp).1
  have := h2 i hi; omega
set_option maxHeartbeats 2000000 in
theorem back13_walk (k : Int) (a : Option Addr) (cap : Nat) (L : List F) (w : World) (hk0 : (Lit.int .i64 k).wf = true) (hl : L.length ≤ maxLen) (hF : Fs w a L) (hc : L.length ≤ cap) (hW : Wts w) :
    Calls Tryd.prog 5 #[.int .i64 k, .slice a L.length cap] w fun e w' => e = .returned (.bool true) ∧ Below w.heap.size w w' := by
  have HT := box hW
  have hki := in13 hk0
  have F0 := box hF
  have HL := box hl
  clear hW hk0 hF hl hc
  rcases hk : keepF L with _ | _
  · have HK := box hk
    clear hk
    go_enter Tryd.func5, Tryd.ntmps5
    go_wp2_with fail
    refine (keepFields_any a cap L _ HL.out F0).mono ?_; rintro e w1 ⟨rfl, rfl⟩; rw [HK.out]
    go_wp2
    go_ret
    exact ⟨rfl, Below.refl _ _⟩
  · have HK := box hk
    obtain ⟨s1, s2⟩ := keep_sm13 hk (nameK k)
    have hmm := keep_mem13 hk (nameK k)
    have S := box s1
    have hv := box s2
    obtain ⟨nm, hnm⟩ : ∃ nm, nameK k = nm := ⟨_, rfl⟩
    have HN := box hnm
    have hnz : nm.size ≤ 15 := by rw [← hnm]; exact name_size k
    have hm65 : Box (nm.size ≤ 65536) := box (by omega)
    cases ho : prefsO k L with
    | false =>
      have HX : Box (prefsV k L = [] ∧ prefsO k L = false) := box ⟨by unfold prefsV; rw [ho]; rfl, ho⟩
      by_cases hk14 : 1 ≤ k ∧ k ≤ 4
      · have HH : Box (L.any (nmd nm) = false) := box (by
          have h := ho
          unfold prefsO at h
          rw [decide_eq_true (name_ne hk14.1 hk14.2), Bool.true_and, hnm] at h
          exact h)
        clear hk s1 s2 hmm hnm ho
        go_enter Tryd.func5, Tryd.ntmps5
        go_wp2_with fail
        refine (keepFields_any a cap L _ HL.out F0).mono ?_; rintro e w1 ⟨rfl, rfl⟩; rw [HK.out]
        go_wp2_with fail
        refine (mPrefs_is hki S hv F0.out HT.out HX).mono ?_; rintro e w1 ⟨p1, c1, rfl, hQ1, hb1⟩
        have B1 := box hb1
        have F1 := box (F0.out.below hb1)
        have Q1 := box hQ1
        clear hb1 hQ1
        go_wp2_with fail
        refine (rName_is hki HN).mono ?_; rintro e w2 ⟨rfl, rfl⟩
        go_wp2_with fail
        refine (rHas13_is S hm65 F1.out HH).mono ?_; rintro e w3 ⟨rfl, hb3⟩
        have B3 := box (B1.out.trans (hb3.mono B1.out.size))
        clear hb3
        go_wp2_with fail
        refine (awake13_any _ (HT.out.below B3.out)).mono ?_; rintro e w4 ⟨rfl, hb4⟩
        have B4 := box (B3.out.trans (hb4.mono B3.out.size))
        clear hb4
        go_wp2
        go_ret
        exact ⟨rfl, B4.out⟩
      · obtain ⟨b, hb⟩ : ∃ b, L.any (nmd nm) = b := ⟨_, rfl⟩
        have HH := box hb
        clear hk s1 s2 hmm hnm ho hb
        have hkk : k < 1 ∨ (¬ k < 1 ∧ 4 < k) := by omega
        clear hk14
        cases b with
        | false =>
          rcases hkk with g1 | ⟨g1, g2⟩
          all_goals
            go_enter Tryd.func5, Tryd.ntmps5
            go_wp2_with fail
            refine (keepFields_any a cap L _ HL.out F0).mono ?_; rintro e w1 ⟨rfl, rfl⟩; rw [HK.out]
            go_wp2_with fail
            refine (mPrefs_is hki S hv F0.out HT.out HX).mono ?_; rintro e w1 ⟨p1, c1, rfl, hQ1, hb1⟩
            have B1 := box hb1
            have F1 := box (F0.out.below hb1)
            have Q1 := box hQ1
            clear hb1 hQ1
            go_wp2_with fail
            refine (rName_is hki HN).mono ?_; rintro e w2 ⟨rfl, rfl⟩
            go_wp2_with fail
            refine (rHas13_is S hm65 F1.out HH).mono ?_; rintro e w3 ⟨rfl, hb3⟩
            have B3 := box (B1.out.trans (hb3.mono B1.out.size))
            clear hb3
            go_wp2_with fail
            refine (awake13_any _ (HT.out.below B3.out)).mono ?_; rintro e w4 ⟨rfl, hb4⟩
            have B4 := box (B3.out.trans (hb4.mono B3.out.size))
            clear hb4
            go_wp2
            go_ret
            exact ⟨rfl, B4.out⟩
        | true =>
          rcases hkk with g1 | ⟨g1, g2⟩
          all_goals
            go_enter Tryd.func5, Tryd.ntmps5
            go_wp2_with fail
            refine (keepFields_any a cap L _ HL.out F0).mono ?_; rintro e w1 ⟨rfl, rfl⟩; rw [HK.out]
            go_wp2_with fail
            refine (mPrefs_is hki S hv F0.out HT.out HX).mono ?_; rintro e w1 ⟨p1, c1, rfl, hQ1, hb1⟩
            have B1 := box hb1
            have F1 := box (F0.out.below hb1)
            have Q1 := box hQ1
            clear hb1 hQ1
            go_wp2_with fail
            refine (rName_is hki HN).mono ?_; rintro e w2 ⟨rfl, rfl⟩
            go_wp2_with fail
            refine (rHas13_is S hm65 F1.out HH).mono ?_; rintro e w3 ⟨rfl, hb3⟩
            have B3 := box (B1.out.trans (hb3.mono B1.out.size))
            clear hb3
            go_wp2
            go_ret
            exact ⟨rfl, B3.out⟩
    | true =>
      obtain ⟨X, hX⟩ : ∃ X, prefsV k L = X := ⟨_, rfl⟩
      have hne : nameK k ≠ ⟨#[]⟩ := by
        intro e
        unfold prefsO at ho
        rw [decide_eq_false (by simp [e]), Bool.false_and] at ho
        cases ho
      obtain ⟨t, ht⟩ : ∃ t, fmtPf X = t := ⟨_, rfl⟩
      obtain ⟨f1, f2, f3, f4, f5⟩ := prefs_back hne ho hmm (x := t) (by rw [hX, ht])
      have hqq := prefs_q (k := k) (L := L)
      have hX6 : X.length ≤ 65536 := by rw [← hX]; have := prefs13_len k L; omega
      rw [hnm] at f1 f2 f4
      rw [hX] at f1 f5 hqq
      have zX : Box (∀ i (hi : i < X.length), X[i].1.size ≤ 65000) := box (fun i hi => by have := f5 i hi; omega)
      have qX : Box (∀ i (hi : i < X.length), InI64 X[i].2) := box (fun i hi => by have := hqq _ (List.getElem_mem hi); exact ⟨by omega, by omega⟩)
      have HX := box (And.intro hX ho)
      have HY := box (And.intro f1 f2)
      have HFM := box ht
      have S1 := box (one_sm13 (n := nm) (v := t) (by omega) (by omega))
      have hv1 : Box (∀ x ∈ getL (nameK k) [(nm, t)], x.size ≤ 65000) := box (fun x hx => by
        unfold getL at hx
        obtain ⟨p, hp, rfl⟩ := List.mem_map.1 hx
        have := (List.mem_filter.1 hp).1
        rw [List.mem_singleton] at this
        rw [this]; exact f3)
      have hm1 : Box (∀ m ∈ allL (nameK k) [(nm, t)], m.length ≤ 20000) := box (by rw [hnm]; exact f4)
      clear hk s1 s2 hmm hnm ho hX hne ht f1 f2 f3 f4 f5 hqq
      go_enter Tryd.func5, Tryd.ntmps5
      go_wp2_with fail
      refine (keepFields_any a cap L _ HL.out F0).mono ?_; rintro e w1 ⟨rfl, rfl⟩; rw [HK.out]
      go_wp2_with fail
      refine (mPrefs_is hki S hv F0.out HT.out HX).mono ?_; rintro e w1 ⟨p1, c1, rfl, hQ1, hb1⟩
      have B1 := box hb1
      have F1 := box (F0.out.below hb1)
      have Q1 := box hQ1
      clear hb1 hQ1
      go_wp2_with fail
      refine (mName_is hki HN).mono ?_; rintro e w2 ⟨rfl, hb2⟩
      have B2 := box (B1.out.trans (hb2.mono B1.out.size))
      have Q2 := box (Q1.out.below hb2)
      clear hb2
      go_wp2_with fail
      refine (mFmtPf_is hX6 zX qX Q2.out (HT.out.below B2.out) HFM).mono ?_; rintro e w3 ⟨rfl, hb3⟩
      have B3 := box (B2.out.trans (hb3.mono B2.out.size))
      have Q3 := box (Q2.out.below hb3)
      clear hb3
      go_wp2_with fail
      refine (mPrefs_is2 (L := [(nm, t)]) hki S1 hv1 hm1 (fs_one13 _ _ _ _) (HT.out.below (B3.out.alloc B3.out.size _)) HY).mono ?_; rintro e w4 ⟨p4, c4, rfl, hQ4, hb4⟩
      have R4 := box ((Q3.out.below (below_new _ (.cells #[.string nm, .string t] 36))).below hb4)
      have B4 := box ((B3.out.alloc B3.out.size (.cells #[.string nm, .string t] 36)).trans (hb4.mono (B3.out.alloc B3.out.size (.cells #[.string nm, .string t] 36)).size))
      have Q4 := box hQ4
      clear hb4 hQ4
      go_wp2_with fail
      refine (samePrefs_any p1 p4 c1 c4 X _ hX6 R4 Q4).mono ?_; rintro e w5 ⟨rfl, hb5⟩
      have B5 := box (B4.out.trans (hb5.mono B4.out.size))
      clear hb5
      go_wp2_with fail
      refine (awake13_any _ (HT.out.below B5.out)).mono ?_; rintro e w6 ⟨rfl, hb6⟩
      have B6 := box (B5.out.trans (hb6.mono B5.out.size))
      clear hb6
      go_wp2
      go_ret
      exact ⟨rfl, B6.out⟩
end
end Go.Proofs.YtnpllgjkbpnimaaDoor.Asc
