/- The contracts of package target's hasScheme and splitAuthority. -/
import Derived.Test.YtilodlmjamaiiaaTarIdx
import Derived.Test.YtilodlmjamaiiaaTarHas
import Derived.Test.YtilodlmjamaiiaaTarRRes
set_option linter.unusedVariables false
set_option linter.unusedSimpArgs false
namespace Go.Proofs.Ytilodlmjamaiiaa.Asc
open Go.RowKit

def httpS : ByteArray := ⟨#[104, 116, 116, 112, 58, 47, 47]⟩
theorem tScheme_any (s : ByteArray) (w : World) (hs : s.size ≤ 60000) :
    Calls Try.prog 42 #[.string s] w fun e w' => e = .returned (.bool (schemeB s.data.toList)) ∧ Below w.heap.size w w' := by
  have hz : s.data.toList.length = s.size := by simp
  by_cases h7 : 7 ≤ s.size
  · have hE : schemeB s.data.toList = foldL (s.data.toList.take 7) http := by
      unfold schemeB
      rw [hz]
      simp only [h7, decide_true, Bool.true_and]
    have HE := box hE
    have hz2 : (s.extract 0 7).size ≤ maxLen := by rw [ByteArray.size_extract]; unfold maxLen; omega
    have HZ := box hz2
    have h7i : (7 : Int) ≤ (s.size : Int) := by omega
    clear hE hz2 hz
    go_enter Try.func42, Try.ntmps42
    go_wp2_with fail
    refine (Fold_any _ _ _ HZ.out (by decide)).mono ?_; rintro e w1 ⟨rfl, hb1⟩
    go_wp2
    go_ret
    exact ⟨ret_bool (by rw [HE.out]; rfl), hb1⟩
  · have hE : schemeB s.data.toList = false := by
      unfold schemeB; rw [hz]; simp [h7]
    have HE := box hE
    have h7i : (s.size : Int) < 7 := by omega
    clear hE hz
    go_enter Try.func42, Try.ntmps42
    go_wp2
    go_ret
    exact ⟨ret_bool HE.out.symm, Below.refl _ _⟩
theorem tScheme_is {s : ByteArray} {b : Bool} {w : World} (hs : s.size ≤ 60000) (h : Box (schemeB s.data.toList = b)) :
    Calls Try.prog 42 #[.string s] w fun e w' => e = .returned (.bool b) ∧ Below w.heap.size w w' :=
  (tScheme_any s w hs).mono fun e w' ⟨h1, h2⟩ => ⟨by rw [h1, h.out], h2⟩
/-- authority and rest, or neither -/
def splV : Option (List UInt8 × List UInt8) → Value
  | some (a, r) => .tuple #[.string (bs a), .string (bs r), .bool true]
  | none => .tuple #[.string ⟨#[]⟩, .string ⟨#[]⟩, .bool false]
theorem pre_head (l : List UInt8) : preB l [47] = decide (l.head? = some 47) := by
  match l with
  | [] => rfl
  | c :: r =>
    show ((47 : UInt8) == c && List.isPrefixOf [] r) = _
    rw [Bool.eq_iff_iff]
    simp
    exact eq_comm
theorem tSplit_any (t h : ByteArray) (w : World) (ht : t.size ≤ 50000) :
    Calls Try.prog 23 #[.string t, .string h] w fun e w' => e = .returned (splV (restL t.data.toList h.data.toList)) ∧ Below w.heap.size w w' := by
  by_cases h47 : t.data.toList.head? = some 47
  · have HP : Box (preB t.data.toList [47] = true) := box (by rw [pre_head]; simpa using h47)
    have HE : Box (restL t.data.toList h.data.toList = some (h.data.toList, t.data.toList)) := box (by unfold restL; rw [if_pos h47])
    go_enter Try.func23, Try.ntmps23
    go_wp2_with fail
    refine (HasPrefix_is (s := t) (p := ⟨#[47]⟩) (by omega) (by decide) HP).mono ?_; rintro e w1 ⟨rfl, rfl⟩
    go_wp2
    go_ret3
    exact ⟨by rw [HE.out]; rfl, Below.refl _ _⟩
  · have HP : Box (preB t.data.toList [47] = false) := box (by rw [pre_head]; simpa using h47)
    rcases hsc : schemeB t.data.toList with _ | _
    · have HS := box hsc
      have HE : Box (restL t.data.toList h.data.toList = none) := box (by unfold restL; rw [if_neg h47, if_neg (by rw [hsc]; simp)])
      clear h47 hsc
      go_enter Try.func23, Try.ntmps23
      go_wp2_with fail
      refine (HasPrefix_is (s := t) (p := ⟨#[47]⟩) (by omega) (by decide) HP).mono ?_; rintro e w1 ⟨rfl, rfl⟩
      go_wp2_with fail
      refine (tScheme_is (by omega) HS).mono ?_; rintro e w1 ⟨rfl, hb1⟩
      go_wp2
      go_ret3
      exact ⟨by rw [HE.out]; rfl, hb1⟩
    · have HS := box hsc
      have h7 : 7 ≤ t.size := by
        unfold schemeB at hsc
        simp only [Bool.and_eq_true, decide_eq_true_eq] at hsc
        have := hsc.1; simpa using this
      obtain ⟨u, hu⟩ : ∃ u, t.extract 7 t.size = u := ⟨_, rfl⟩
      have hul : u.data.toList = t.data.toList.drop 7 := by rw [← hu, ext_bs, List.take_of_length_le (by simp)]; rfl
      have hus : u.size ≤ 50000 := by rw [← hu, ByteArray.size_extract]; omega
      have HE : Box (restL t.data.toList h.data.toList = some (u.data.toList.takeWhile endB, u.data.toList.dropWhile endB)) := box (by unfold restL; rw [if_neg h47, if_pos hsc, hul])
      have HU := box hu
      have h7i : (7 : Int) ≤ (t.size : Int) := by omega
      have hw := any_while (l := u.data.toList) (p := endB) (fun c => by
        unfold endB
        rw [Bool.eq_iff_iff]
        simp [ends2])
      have htw := take_while (p := endB) u.data.toList
      clear h47 hsc hul hu
      by_cases hx : Lib.indexAny u.data.toList ends2 = -1
      · have HX := box hx
        have HT : Box (u.data.toList.takeWhile endB = u.data.toList ∧ u.data.toList.dropWhile endB = []) := box (by
          have h1 := hw.1 hx
          refine ⟨h1, ?_⟩
          have h2 := htw.2
          rw [h1] at h2
          rw [← h2]; simp)
        have hui : (u.size : Int) ≤ (u.size : Int) := by omega
        clear hx hw htw
        go_enter Try.func23, Try.ntmps23
        go_wp2_with fail
        refine (HasPrefix_is (s := t) (p := ⟨#[47]⟩) (by omega) (by decide) HP).mono ?_; rintro e w1 ⟨rfl, rfl⟩
        go_wp2_with fail
        refine (tScheme_is (by omega) HS).mono ?_; rintro e w1 ⟨rfl, hb1⟩
        have B1 := box hb1
        clear hb1
        go_wp2_with fail
        rw [HU.out]
        refine (IndexAny_any u _ (by omega)).mono ?_; rintro e w2 ⟨rfl, hb2⟩; rw [HX.out]
        have B2 := box (B1.out.trans (hb2.mono B1.out.size))
        clear hb2
        go_wp2
        go_quiet (fail)
        go_wp2
        go_ret3
        refine ⟨?_, B2.out.trans ((below_drewN _ _).mono B2.out.size)⟩
        rw [HE.out, HT.out.1, HT.out.2]
        rfl
      · obtain ⟨k, hk⟩ : ∃ k : Nat, Lib.indexAny u.data.toList ends2 = k := ⟨(Lib.indexAny u.data.toList ends2).toNat, by have := Lib.indexAny_ge ends2 u.data.toList; omega⟩
        have HX := box hk
        have hkl := hw.2 k hk
        have hz : u.data.toList.length = u.size := by simp
        have hku : k < u.size := by omega
        have HT : Box (u.data.toList.takeWhile endB = u.data.toList.take k ∧ u.data.toList.dropWhile endB = u.data.toList.drop k) := box (by
          have h1 := htw.1
          have h2 := htw.2
          rw [hkl.1] at h1 h2
          exact ⟨h1.symm, h2.symm⟩)
        have hki : (k : Int) ≤ (u.size : Int) := by omega
        have hk0 : ¬ (k : Int) < 0 := by omega
        clear hx hw htw hk hkl hz
        go_enter Try.func23, Try.ntmps23
        go_wp2_with fail
        refine (HasPrefix_is (s := t) (p := ⟨#[47]⟩) (by omega) (by decide) HP).mono ?_; rintro e w1 ⟨rfl, rfl⟩
        go_wp2_with fail
        refine (tScheme_is (by omega) HS).mono ?_; rintro e w1 ⟨rfl, hb1⟩
        have B1 := box hb1
        clear hb1
        go_wp2_with fail
        rw [HU.out]
        refine (IndexAny_any u _ (by omega)).mono ?_; rintro e w2 ⟨rfl, hb2⟩; rw [HX.out]
        have B2 := box (B1.out.trans (hb2.mono B1.out.size))
        clear hb2
        go_wp2
        go_quiet (fail)
        go_wp2
        go_ret3
        refine ⟨?_, B2.out.trans ((below_drewN _ _).mono B2.out.size)⟩
        rw [HE.out, HT.out.1, HT.out.2]
        show Ending.returned (.tuple #[.string (u.extract 0 k), .string (u.extract k u.size), .bool true]) = _
        rw [ext_bs, ext_bs, List.drop_zero, List.take_of_length_le (i := u.size) (by simp)]
        rfl

end Go.Proofs.Ytilodlmjamaiiaa.Asc
