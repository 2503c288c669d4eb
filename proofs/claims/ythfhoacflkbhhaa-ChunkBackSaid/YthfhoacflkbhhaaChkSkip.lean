/- The contract of package chunk's skipTrailer. -/
import Derived.Test.YthfhoacflkbhhaaChkPar
import Derived.Test.YthfhoacflkbhhaaFieParse
set_option linter.unusedVariables false
set_option linter.unusedSimpArgs false
namespace Go.Proofs.Ythfhoacflkbhhaa.Asc
open Go.RowKit

/-- what skipTrailer returns and leaves in the variable -/
def SkipPost (k : Nat) (o : Int ⊕ List UInt8) (e : Ending) (w' : World) : Prop := match o with
  | .inl c => e = .returned (.int .i64 c) ∧ (c = 0 → False)
  | .inr r => e = .returned (.int .i64 0) ∧ StrAt k (bs r) w'
theorem next_le {l t r : List UInt8} (h : nextL l = .inr (t, r)) : r.length ≤ l.length := by
  have := congrArg List.length (next_line h).1
  simp at this; omega
theorem Parse5_is {t : List UInt8} {a1 a2 : List UInt8} {e2 : Int} {w : World} (hs : t.length ≤ 2000) (h : Box (fieldL t = (a1, a2, e2))) :
    Calls Try.prog 34 #[.string (bs t)] w fun e w' => e = .returned (.tuple #[.agg #[.string (bs a1), .string (bs a2)], .int .i64 e2]) ∧ Below w.heap.size w w' :=
  (Parse_any (bs t) w (by rw [bs_size]; unfold maxLen; omega)).mono fun e w' ⟨h1, h2⟩ => ⟨by rw [h1, bs_toList, h.out, fieldV_mk], h2⟩
def SkipRel (k : Nat) (x : ByteArray) (w : World) (c : Value) (wr : World) : Prop := ∃ (j : Nat) (y : ByteArray), c = .int .i64 j ∧ j ≤ 64 ∧ y.size ≤ 4000000 ∧ trailF 66 0 x.data.toList = trailF (66 - j) j y.data.toList ∧ StrAt k y wr ∧ Only k w wr
set_option maxHeartbeats 1000000 in
theorem skip5_any (k : Nat) (x : ByteArray) (w : World) (hs : x.size ≤ 4000000) (h : Box (StrAt k x w)) :
    Calls Try.prog 21 #[.func (.func 17) #[] #[.pointer (some ⟨k, 0, none⟩)]] w fun e w' => SkipPost k (trailF 66 0 x.data.toList) e w' ∧ Only k w w' := by
  go_enter Try.func21, Try.ntmps21
  go_wp2
  go_loopw [3] (fun c wr => SkipRel k x w c wr) (fun c _ => 65 - (intOf c).toNat)
  case atStart => exact ⟨0, x, rfl, Nat.zero_le _, hs, rfl, h.out, Only.refl _ _⟩
  case round =>
    obtain ⟨j, y, rfl, hj, hy, hT, hS, hO⟩ := hrel
    obtain ⟨g, hg⟩ : ∃ g, 66 - j = g + 1 := ⟨65 - j, by omega⟩
    rw [hg] at hT
    have HT := box hT
    have S0 := box hS
    have O0 := box hO
    clear hT hS hO
    obtain ⟨r0, hr0⟩ : ∃ r0, cloR (nextL y.data.toList) = r0 := ⟨_, rfl⟩
    have HR := box hr0
    rcases hn : nextL y.data.toList with e0 | ⟨t, r⟩
    · have HV : Box (cloV (nextL y.data.toList) = .tuple #[.string ⟨#[]⟩, .int .i64 e0]) := box (by rw [hn]; rfl)
      have HE : Box (trailF 66 0 x.data.toList = .inl e0) := box (by rw [HT.out, trail_bad hn])
      have he := err_size hn
      clear hn hr0
      rcases he with rfl | rfl | rfl
      all_goals
        go_wp2_with fail
        refine (clo5_is hy S0 HV HR).mono ?_; rintro e w1 ⟨rfl, hs1, ho1⟩
        have O1 := box (O0.out.trans ho1)
        clear hs1 ho1
        go_wp2
        go_ret
        refine ⟨?_, O1.out⟩
        rw [HE.out]
        exact ⟨rfl, by decide⟩
    · have htl : t.length ≤ 2000 := (next_line hn).2.2
      have hrl := next_le hn
      have HV : Box (cloV (nextL y.data.toList) = .tuple #[.string (bs t), .int .i64 0]) := box (by rw [hn]; rfl)
      have hr1 : r0 = bs r := by rw [← hr0, hn]; rfl
      subst hr1
      have hyl : y.data.toList.length = y.size := by simp
      have hrz : (bs r).size ≤ 4000000 := by rw [bs_size]; omega
      clear hr0 hyl hrl
      by_cases ht : t = []
      · subst ht
        have HE : Box (trailF 66 0 x.data.toList = .inr r) := box (by rw [HT.out, trail_done hn])
        clear hn
        go_wp2_with fail
        refine (clo5_is hy S0 HV HR).mono ?_; rintro e w1 ⟨rfl, hs1, ho1⟩
        have S1 := box hs1
        have O1 := box (O0.out.trans ho1)
        clear hs1 ho1
        rw [show bs ([] : List UInt8) = (⟨#[]⟩ : ByteArray) from rfl]
        go_wp2
        go_ret
        refine ⟨?_, O1.out⟩
        rw [HE.out]
        exact ⟨rfl, S1.out⟩
      · have hte : (bs t).toList.isEmpty = false := by rw [toList_bs]; cases t <;> simp_all
        by_cases hj64 : j = 64
        · subst hj64
          have HE : Box (trailF 66 0 x.data.toList = .inl 4) := box (by rw [HT.out, trail_many hn ht])
          clear hn ht
          go_wp2_with fail
          refine (clo5_is hy S0 HV HR).mono ?_; rintro e w1 ⟨rfl, hs1, ho1⟩
          have O1 := box (O0.out.trans ho1)
          clear hs1 ho1
          go_wp2
          go_ret
          refine ⟨?_, O1.out⟩
          rw [HE.out]
          exact ⟨rfl, by decide⟩
        · have hji : ((j : Int) == 64) = false := by rw [beq_eq_false_iff_ne]; omega
          obtain ⟨a1, a2, e2, hfl⟩ : ∃ a1 a2 e2, fieldL t = (a1, a2, e2) := ⟨_, _, _, rfl⟩
          have HF := box hfl
          rcases he2 : ((e2 : Int) != 0) with _ | _
          · have he20 : e2 = 0 := by simpa using he2
            have HNX := box (HT.out.trans (trail_next hn ht hj64 (by rw [hfl]; exact he20)))
            clear hn ht hfl he20
            go_wp2_with fail
            refine (clo5_is hy S0 HV HR).mono ?_; rintro e w1 ⟨rfl, hs1, ho1⟩
            have S1 := box hs1
            have O1 := box (O0.out.trans ho1)
            clear hs1 ho1
            go_wp2_with fail
            refine (Parse5_is htl HF).mono ?_; rintro e w2 ⟨rfl, hb2⟩
            have S2 := box (S1.out.below hb2 S1.out.lt)
            have O2 := box (O1.out.trans (Only.of hb2))
            clear hb2
            go_wp2
            go_roundw
            case rel => exact ⟨j + 1, bs r, by go_num, by omega, hrz, by rw [show 66 - (j + 1) = g from by omega]; exact HNX.out, S2.out.below (below_new _ _) S2.out.lt, O2.out.trans (Only.of (below_new _ _))⟩
            case measure => simp [intOf]; omega
          · have he20 : e2 ≠ 0 := by simpa using he2
            have HE : Box (trailF 66 0 x.data.toList = .inl e2) := box (by rw [HT.out, trail_field hn ht hj64 (by rw [hfl]; exact he20), hfl])
            have HNE := box he20
            clear hn ht hfl he20
            go_wp2_with fail
            refine (clo5_is hy S0 HV HR).mono ?_; rintro e w1 ⟨rfl, hs1, ho1⟩
            have S1 := box hs1
            have O1 := box (O0.out.trans ho1)
            clear hs1 ho1
            go_wp2_with fail
            refine (Parse5_is htl HF).mono ?_; rintro e w2 ⟨rfl, hb2⟩
            have O2 := box (O1.out.trans (Only.of hb2))
            clear hb2
            go_wp2
            go_ret
            refine ⟨?_, O2.out.trans (Only.of (below_new _ _))⟩
            rw [HE.out]
            exact ⟨rfl, HNE.out⟩

end Go.Proofs.Ythfhoacflkbhhaa.Asc
