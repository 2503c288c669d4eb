/- The contract of package target's Normalize. -/
import Derived.Test.YtilodlmjamaiiaaTarTri
set_option linter.unusedVariables false
set_option linter.unusedSimpArgs false
namespace Go.Proofs.Ytilodlmjamaiiaa.Asc
open Go.RowKit

theorem NmAt.triple_none {s : ByteArray} {k : Nat} {acc : List UInt8} (h : NmAt s.data.toList k acc) (hk : k < s.size) (hc : s[k] = 37) (ht : tripleL (s.data.toList.drop k) = none) : normL s.data.toList = none := by
  by_cases h2 : s.size ≤ k + 2
  · exact h.short hk hc h2
  · rw [drop_cons s k hk, drop_cons s (k + 1) (by omega), drop_cons s (k + 1 + 1) (by omega)] at ht
    refine h.nohex (by omega) hc ?_
    rcases q : (hexB s[k + 1] && hexB s[k + 2]) with _ | _
    · rfl
    · exfalso
      simp only [tripleL] at ht
      rw [if_pos q] at ht; cases ht
theorem NmAt.triple_some {s : ByteArray} {k : Nat} {acc : List UInt8} {y : UInt8} (h : NmAt s.data.toList k acc) (hk : k < s.size) (hc : s[k] = 37) (ht : tripleL (s.data.toList.drop k) = some y) : k + 2 < s.size ∧ NmAt s.data.toList (k + 1 + 1 + 1) (acc ++ tripL y.toNat) := by
  by_cases h2 : s.size ≤ k + 2
  · exfalso
    by_cases h1 : k + 1 < s.size
    · rw [drop_cons s k hk, drop_cons s (k + 1) h1, List.drop_of_length_le (by simp; omega)] at ht; cases ht
    · rw [drop_cons s k hk, List.drop_of_length_le (by simp; omega)] at ht; cases ht
  · rw [drop_cons s k hk, drop_cons s (k + 1) (by omega), drop_cons s (k + 1 + 1) (by omega)] at ht
    refine ⟨by omega, ?_⟩
    rcases q : (hexB s[k + 1] && hexB s[k + 2]) with _ | _
    · exfalso
      simp only [tripleL] at ht
      rw [if_neg (by rw [q]; simp)] at ht; cases ht
    · simp only [tripleL] at ht
      rw [if_pos q] at ht
      simp only [Bool.and_eq_true] at q
      have hb := trip_lt q.1 q.2
      cases ht
      have hT := h.trip (by omega) hc q.1 q.2
      rwa [UInt8.toNat_ofNat', Nat.mod_eq_of_lt (by simpa using hb)]
set_option maxRecDepth 100000 in
set_option maxHeartbeats 1000000 in
theorem tNormalize_any (s : ByteArray) (w : World) (hs : s.size ≤ 60000) :
    Calls Try.prog 15 #[.string s] w fun e w' => e = .returned (optV (normL s.data.toList)) ∧ Below w.heap.size w w' := by
  obtain ⟨i0, hi0, hz0, hz1, hz2⟩ := info_parts info_u8
  have hmk := fun (w : World) => run_make (P := Try.prog) w 47 5 i0 _ Try.underlying47 hi0 hz0 .i64 .i64 0 s.size (by omega) (by omega) (by rw [hz2]; omega) (by omega)
  simp only [hz1, Nat.mul_one, Int.toNat_natCast] at hmk
  clear hz0 hz1 hz2 hi0
  have hO0 : Own (w.alloc (.cells (madeCells #[.int .u8 0] s.size) 5)) w.heap.size (.slice (some ⟨w.heap.size, 0, none⟩) 0 s.size) [] :=
    ⟨rfl, .inr ⟨_, _, _, rfl, Nat.le_refl _, heap_alloc_new w _, Nat.zero_le _, by unfold maxLen; omega, by simp [size_madeCells], rfl⟩⟩
  have HO0 := box hO0
  clear hO0
  go_enter Try.func15, Try.ntmps15
  go_wp2
  clear hmk
  go_loopw [4, 5] (fun v i wr => ∃ (k : Nat) (acc : List UInt8), k ≤ s.size ∧ i = .int .i64 k ∧ Own wr w.heap.size v acc ∧ NmAt s.data.toList k acc ∧ Below w.heap.size w wr) (fun _ i _ => s.size - (intOf i).toNat)
  case atStart => exact ⟨0, [], Nat.zero_le _, rfl, HO0.out, NmAt.start _, (Below.refl _ _).alloc (Nat.le_refl _) _⟩
  case round =>
    obtain ⟨k, acc, hk, rfl, hO, hU, hbel⟩ := hrel
    have ha := hU.1
    have O := box hO
    have NA := box hU
    have BL := box hbel
    have hbs := hbel.size
    clear hO hU hbel
    by_cases hlt : k < s.size
    · have hlti : (k : Int) < (s.size : Int) := by omega
      rcases h37 : ((s[k].toNat : Int) == 37) with _ | _
      · have h37b : Box (s[k] ≠ 37) := box (by intro e; rw [e] at h37; simp at h37)
        rcases hc : okB s[k] with _ | _
        · have HE : Box (normL s.data.toList = none) := box (NA.out.bad hlt hc)
          rcases hv : visI (s[k].toNat) with _ | _
          · have HV := box hv
            clear hc hv
            go_wp2_with fail
            refine (tVisible_any _ _).mono ?_; rintro e w1 ⟨rfl, rfl⟩; rw [HV.out]
            go_wp2
            go_ret2
            exact ⟨by rw [HE.out]; rfl, BL.out⟩
          · have HV := box hv
            have h35 : ((s[k].toNat : Int) != 35) = false := by
              unfold okB okI at hc
              unfold visI at hv
              rw [hv] at hc
              simpa using hc
            clear hc hv
            go_wp2_with fail
            refine (tVisible_any _ _).mono ?_; rintro e w1 ⟨rfl, rfl⟩; rw [HV.out]
            go_wp2
            go_ret2
            exact ⟨by rw [HE.out]; rfl, BL.out⟩
        · have HV : Box (visI (s[k].toNat) = true) := box (by
            unfold okB okI at hc
            unfold visI
            simp only [Bool.and_eq_true] at hc
            exact hc.1)
          have h35 : ((s[k].toNat : Int) != 35) = true := by
            unfold okB okI at hc
            simp only [Bool.and_eq_true] at hc
            simpa using hc.2
          have N2 := box (NA.out.plain hlt hc h37b.out)
          clear hc
          go_wp2_with fail
          refine (tVisible_any _ _).mono ?_; rintro e w1 ⟨rfl, rfl⟩; rw [HV.out]
          go_wp2_with (at_builtin; refine wpList_append_byte _ rfl (.tmp 47) (.tmp 51) rfl w.heap.size _ acc rfl (Own.alloc O.out _) _ rfl _ s[k] rfl (cell_new _ _ _ _ rfl) (by omega) (Nat.le_trans hbs (size_more _ _)) ?_; intro v' w3 hO1 hb1)
          have O1 := box hO1
          have B1 := box ((BL.out.alloc hbs _).trans hb1)
          clear hO1 hb1
          go_roundw
          case rel => exact ⟨k + 1, _, by omega, by go_num, O1.out, N2.out, B1.out⟩
          case measure => simp [intOf]; omega
      · have e37 : Box (s[k] = 37) := box (byte_eq (n := 37) (by simpa using h37) (by omega))
        have HZ : Box ((s.extract k s.size).size ≤ 65536) := box (by rw [ByteArray.size_extract]; omega)
        have HX : Box ((s.extract k s.size).data.toList = s.data.toList.drop k) := box (by rw [ext_bs, List.take_of_length_le (by simp)]; rfl)
        obtain ⟨t, ht⟩ : ∃ t, tripleL (s.data.toList.drop k) = t := ⟨_, rfl⟩
        have HT := box ht
        clear ht
        rcases t with _ | y
        · have HE : Box (normL s.data.toList = none) := box (NA.out.triple_none hlt e37.out HT.out)
          go_wp2_with fail
          refine (tTriplet_any _ _ HZ.out).mono ?_; rintro e w1 ⟨rfl, rfl⟩; rw [HX.out, HT.out]; unfold trV
          go_wp2
          go_ret2
          exact ⟨by rw [HE.out]; rfl, BL.out⟩
        · have hT := NA.out.triple_some hlt e37.out HT.out
          have T2 := box hT.2
          have hk2 := hT.1
          clear hT
          go_wp2_with fail
          refine (tTriplet_any _ _ HZ.out).mono ?_; rintro e w1 ⟨rfl, rfl⟩; rw [HX.out, HT.out]; unfold trV
          go_wp2_with fail
          refine (tAppendTrip_any y _ w.heap.size _ acc hbs O (by omega)).mono ?_; rintro e w1 ⟨v1, rfl, hO1, hb1⟩
          have O1 := box hO1
          have B1 := box (BL.out.trans hb1)
          clear hO1 hb1
          go_wp2
          go_roundw
          case rel => exact ⟨k + 1 + 1 + 1, _, by omega, by go_num, O1.out, T2.out, B1.out⟩
          case measure => simp [intOf]; omega
    · have HE : Box (normL s.data.toList = some acc) := box (NA.out.fin (by simp; omega))
      have hst := O.out.str
      go_wp2
      go_ret2
      exact ⟨by rw [HE.out]; rfl, BL.out⟩

end Go.Proofs.Ytilodlmjamaiiaa.Asc
