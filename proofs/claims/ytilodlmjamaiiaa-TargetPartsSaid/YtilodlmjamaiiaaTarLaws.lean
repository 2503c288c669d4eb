/- The walks of the laws TargetParses, TargetParts, TargetNormal. -/
import Derived.Test.YtilodlmjamaiiaaTarMRes
set_option linter.unusedVariables false
set_option linter.unusedSimpArgs false
namespace Go.Proofs.Ytilodlmjamaiiaa.Asc
open Go.RowKit

theorem uri_awake : uriL [47, 97, 47, 46, 46, 47, 98, 37, 55, 101, 63, 120] [69, 88, 65, 77, 80, 76, 69, 46, 111, 114, 103, 58, 56, 48] = (([101, 120, 97, 109, 112, 108, 101, 46, 111, 114, 103], 80, [47, 98, 126], [120], true), 0) := by decide +kernel
theorem awake4_any (w : World) : Calls Try.prog 12 #[] w fun e w' => e = .returned (.bool true) ∧ Below w.heap.size w w' := by
  go_enter Try.func12, Try.ntmps12
  go_wp2_with fail
  refine (tParse_any _ _ _ (by decide) (by decide)).mono ?_; rintro e w1 ⟨rfl, hb1⟩
  rw [show uriL (⟨#[47, 97, 47, 46, 46, 47, 98, 37, 55, 101, 63, 120]⟩ : ByteArray).data.toList (⟨#[69, 88, 65, 77, 80, 76, 69, 46, 111, 114, 103, 58, 56, 48]⟩ : ByteArray).data.toList = _ from uri_awake]
  unfold uriV uV
  go_wp2_with fail
  refine (tKey_any (bs [101, 120, 97, 109, 112, 108, 101, 46, 111, 114, 103]) 80 (bs [47, 98, 126]) (bs [120]) true _ (by decide) (by decide) (by decide) (box (by unfold InI64; omega))).mono ?_; rintro e w2 ⟨rfl, hb2⟩
  have b1 := hb1.alloc hb1.size (.cells #[.string (bs [101, 120, 97, 109, 112, 108, 101, 46, 111, 114, 103]), .int .i64 80, .string (bs [47, 98, 126]), .string (bs [120]), .bool true] 23)
  have b2 := b1.trans (hb2.mono b1.size)
  clear hb1 hb2 b1
  go_wp2
  go_ret
  exact ⟨ret_bool (by decide +kernel), b2⟩
theorem parses4_in (t h : ByteArray) (w : World) (ht : t.size ≤ 3000) (hh : h.size ≤ 3000) (x2 : List UInt8) (n2 : Int) (p2 q2 : List UInt8) (b2 : Bool) (e2 : Int) (HU : Box (uriL t.data.toList h.data.toList = ((x2, n2, p2, q2, b2), e2))) :
    Calls Try.prog 3 #[.string t, .string h] w fun e w' => e = .returned (.bool true) ∧ Below w.heap.size w w' := by
  go_enter Try.func3, Try.ntmps3
  go_wp2_with fail
  refine (tParse_any t h _ (by omega) (by omega)).mono ?_; rintro e w1 ⟨rfl, hb1⟩; rw [HU.out]
  unfold uriV uV
  go_wp2_with fail
  refine (rParseURI_any t h _ (by omega) (by omega)).mono ?_; rintro e w2 ⟨rfl, hb2⟩; rw [HU.out]
  unfold uriV uV
  have F := (UF.new (bs x2) n2 (bs p2) (bs q2) b2 w1 23).below hb2 (by simp)
  have hlt := F.lt
  obtain ⟨⟨u0, u1, u2, u3, u4⟩, _⟩ := F
  have b1 := hb1.alloc hb1.size (.cells #[.string (bs x2), .int .i64 n2, .string (bs p2), .string (bs q2), .bool b2] 23)
  have b2' := b1.trans (hb2.mono b1.size)
  clear hb1 hb2 b1
  go_wp2_with fail
  refine (awake4_any _).mono ?_; rintro e w3 ⟨rfl, hb3⟩
  go_wp2
  go_ret
  exact ⟨rfl, (b2'.alloc b2'.size _).trans (hb3.mono (b2'.alloc b2'.size _).size)⟩
theorem parses4_walk (t h : ByteArray) (w : World) (ht : t.size ≤ maxLen) (hh : h.size ≤ maxLen) :
    Calls Try.prog 3 #[.string t, .string h] w fun e w' => e = .returned (.bool true) ∧ Below w.heap.size w w' := by
  unfold maxLen at ht hh
  by_cases h1 : t.size ≤ 3000
  · by_cases h2 : h.size ≤ 3000
    · obtain ⟨x2, n2, p2, q2, b2, e2, hu⟩ : ∃ x2 n2 p2 q2 b2 e2, uriL t.data.toList h.data.toList = ((x2, n2, p2, q2, b2), e2) := ⟨_, _, _, _, _, _, rfl⟩
      exact parses4_in t h w h1 h2 x2 n2 p2 q2 b2 e2 (box hu)
    · have h2i : (3000 : Int) < (h.size : Int) := by omega
      have h1i : ¬ (3000 : Int) < (t.size : Int) := by omega
      go_enter Try.func3, Try.ntmps3
      go_wp2
      go_ret
      exact ⟨rfl, Below.refl _ _⟩
  · have h1i : (3000 : Int) < (t.size : Int) := by omega
    go_enter Try.func3, Try.ntmps3
    go_wp2
    go_ret
    exact ⟨rfl, Below.refl _ _⟩
theorem auth_form (o : Option (List UInt8 × Int)) : ∃ (x : ByteArray) (n : Int) (b : Bool), authV o = .tuple #[.string x, .int .i64 n, .bool b] := by
  rcases o with _ | ⟨x, n⟩
  · exact ⟨_, _, _, rfl⟩
  · exact ⟨_, _, _, rfl⟩
theorem opt_form (o : Option (List UInt8)) : ∃ (x : ByteArray) (b : Bool), optV o = .tuple #[.string x, .bool b] := by
  rcases o with _ | x
  · exact ⟨_, _, rfl⟩
  · exact ⟨_, _, rfl⟩
set_option maxHeartbeats 1000000 in
theorem parts4_walk (s : ByteArray) (w : World) (hs : s.size ≤ maxLen) :
    Calls Try.prog 4 #[.string s] w fun e w' => e = .returned (.bool true) ∧ Below w.heap.size w w' := by
  unfold maxLen at hs
  by_cases h1 : s.size ≤ 3000
  · have h1i : ¬ (3000 : Int) < (s.size : Int) := by omega
    obtain ⟨x, n, b, ha⟩ := auth_form (authL s.data.toList)
    obtain ⟨y, c, hn⟩ := opt_form (normL s.data.toList)
    have HA := box ha
    have HN := box hn
    clear ha hn
    obtain ⟨sg, hsg⟩ : ∃ sg, bs (segL s.data.toList) = sg := ⟨_, rfl⟩
    have HSG := box hsg
    clear hsg
    go_enter Try.func4, Try.ntmps4
    go_wp2_with fail
    refine (tAuthority_any s _ (by omega)).mono ?_; rintro e w1 ⟨rfl, hb1⟩; rw [HA.out]
    have B1 := box hb1
    clear hb1
    go_wp2_with fail
    refine (rAuthority_any s _ (by omega)).mono ?_; rintro e w2 ⟨rfl, hb2⟩; rw [HA.out]
    have B2 := box (B1.out.trans (hb2.mono B1.out.size))
    clear hb2
    go_wp2_with fail
    refine (tNormalize_any s _ (by omega)).mono ?_; rintro e w3 ⟨rfl, hb3⟩; rw [HN.out]
    have B3 := box (B2.out.trans (hb3.mono B2.out.size))
    clear hb3
    go_wp2_with fail
    refine (rNormalize_any s _ (by omega)).mono ?_; rintro e w4 ⟨rfl, hb4⟩; rw [HN.out]
    have B4 := box (B3.out.trans (hb4.mono B3.out.size))
    clear hb4
    go_wp2_with fail
    refine (tSegments_any s _ (by omega)).mono ?_; rintro e w5 ⟨rfl, hb5⟩; rw [HSG.out]
    have B5 := box (B4.out.trans (hb5.mono B4.out.size))
    clear hb5
    go_wp2_with fail
    refine (rSegments_any s _ (by omega)).mono ?_; rintro e w6 ⟨rfl, hb6⟩; rw [HSG.out]
    have B6 := box (B5.out.trans (hb6.mono B5.out.size))
    clear hb6
    go_wp2_with fail
    refine (awake4_any _).mono ?_; rintro e w7 ⟨rfl, hb7⟩
    have B7 := box (B6.out.trans (hb7.mono B6.out.size))
    clear hb7
    go_wp2
    go_ret
    exact ⟨rfl, B7.out⟩
  · have h1i : (3000 : Int) < (s.size : Int) := by omega
    go_enter Try.func4, Try.ntmps4
    go_wp2
    go_ret
    exact ⟨rfl, Below.refl _ _⟩
theorem seg_len (l : List UInt8) : (segL l).length ≤ l.length := by
  have key : ∀ (ps out : List (List UInt8)), (joinL (dotsL out ps)).length ≤ (joinL out).length + (joinL ps).length := by
    intro ps
    induction ps with
    | nil => intro out; simp [dotsL, joinL]
    | cons x r ih =>
      intro out
      have hd := join_last out
      have h1 := ih out.dropLast
      have h2 := ih out
      have h3 := ih (out ++ [x])
      have hx : (joinL (x :: r)).length = 1 + x.length + (joinL r).length := by simp [joinL]; omega
      rw [hx]
      unfold dotsL
      split
      · split
        · rw [join_app]; simp only [List.length_append]; simp [joinL] at hd ⊢; omega
        · omega
      · split
        · split
          · rw [join_app]; simp only [List.length_append]; simp [joinL]; omega
          · omega
        · rw [join_app, List.length_append] at h3
          have : (joinL [x]).length = 1 + x.length := by simp [joinL]; omega
          omega
  match l with
  | [] => simp [segL]
  | c :: r =>
    by_cases h : c = 47
    · subst h
      rw [seg_slash]
      have := key (piecesL r) []
      rw [join_pieces] at this
      simpa [joinL] using this
    · rw [seg_other (by simpa using h)]; exact Nat.le_refl _
set_option maxHeartbeats 1000000 in
theorem normal4_walk (s : ByteArray) (w : World) (hs : s.size ≤ maxLen) :
    Calls Try.prog 7 #[.string s] w fun e w' => e = .returned (.bool true) ∧ Below w.heap.size w w' := by
  unfold maxLen at hs
  by_cases h1 : s.size ≤ 1500
  · have h1i : ¬ (1500 : Int) < (s.size : Int) := by omega
    have hz : s.data.toList.length = s.size := by simp
    have hsl := seg_len s.data.toList
    have HSS : Box (segL (bs (segL s.data.toList)).data.toList = segL s.data.toList) := box (by rw [bs_toList]; exact seg_seg _)
    have HSZ : Box ((bs (segL s.data.toList)).size ≤ 50000) := box (by rw [bs_size]; omega)
    obtain ⟨sg, hsg⟩ : ∃ sg, bs (segL s.data.toList) = sg := ⟨_, rfl⟩
    have HSG := box hsg
    rw [hsg] at HSS HSZ
    clear hsg hsl
    rcases hn : normL s.data.toList with _ | m
    · have HN := box hn
      obtain ⟨y, c, hn2⟩ := opt_form (normL (⟨#[]⟩ : ByteArray).data.toList)
      have HN2 := box hn2
      clear hn hn2 hz
      go_enter Try.func7, Try.ntmps7
      go_wp2_with fail
      refine (tNormalize_any s _ (by omega)).mono ?_; rintro e w1 ⟨rfl, hb1⟩; rw [HN.out]; unfold optV
      have B1 := box hb1
      clear hb1
      go_wp2_with fail
      refine (tNormalize_any _ _ (by decide)).mono ?_; rintro e w2 ⟨rfl, hb2⟩; rw [HN2.out]
      have B2 := box (B1.out.trans (hb2.mono B1.out.size))
      clear hb2
      go_wp2_with fail
      refine (tSegments_any s _ (by omega)).mono ?_; rintro e w3 ⟨rfl, hb3⟩; rw [HSG.out]
      have B3 := box (B2.out.trans (hb3.mono B2.out.size))
      clear hb3
      go_wp2_with fail
      refine (tSegments_any sg _ HSZ.out).mono ?_; rintro e w4 ⟨rfl, hb4⟩; rw [HSS.out, HSG.out]
      have B4 := box (B3.out.trans (hb4.mono B3.out.size))
      clear hb4
      go_wp2_with fail
      refine (awake4_any _).mono ?_; rintro e w7 ⟨rfl, hb7⟩
      have B7 := box (B4.out.trans (hb7.mono B4.out.size))
      clear hb7
      go_wp2
      go_ret
      exact ⟨rfl, B7.out⟩
    · obtain ⟨y, hy⟩ : ∃ y, (⟨m.toArray⟩ : ByteArray) = y := ⟨_, rfl⟩
      have hyl : y.data.toList = m := by rw [← hy]
      have hml := norm_len _ _ _ (Nat.le_refl _) hn
      have HYS : Box (y.size ≤ 60000) := box (by have e := bs_size m; have e2 : bs m = y := hy; rw [e2] at e; omega)
      have HN : Box (optV (normL s.data.toList) = .tuple #[.string y, .bool true]) := box (by rw [hn, ← hy]; rfl)
      have HN2 : Box (optV (normL y.data.toList) = .tuple #[.string y, .bool true]) := box (by rw [hyl, norm_idem hn, ← hy]; rfl)
      clear hn hy hyl hml hz
      go_enter Try.func7, Try.ntmps7
      go_wp2_with fail
      refine (tNormalize_any s _ (by omega)).mono ?_; rintro e w1 ⟨rfl, hb1⟩; rw [HN.out]
      have B1 := box hb1
      clear hb1
      go_wp2_with fail
      refine (tNormalize_any y _ HYS.out).mono ?_; rintro e w2 ⟨rfl, hb2⟩; rw [HN2.out]
      have B2 := box (B1.out.trans (hb2.mono B1.out.size))
      clear hb2
      go_wp2_with fail
      refine (tSegments_any s _ (by omega)).mono ?_; rintro e w3 ⟨rfl, hb3⟩; rw [HSG.out]
      have B3 := box (B2.out.trans (hb3.mono B2.out.size))
      clear hb3
      go_wp2_with fail
      refine (tSegments_any sg _ HSZ.out).mono ?_; rintro e w4 ⟨rfl, hb4⟩; rw [HSS.out, HSG.out]
      have B4 := box (B3.out.trans (hb4.mono B3.out.size))
      clear hb4
      go_wp2_with fail
      refine (awake4_any _).mono ?_; rintro e w7 ⟨rfl, hb7⟩
      have B7 := box (B4.out.trans (hb7.mono B4.out.size))
      clear hb7
      go_wp2
      go_ret
      exact ⟨rfl, B7.out⟩
  · have h1i : (1500 : Int) < (s.size : Int) := by omega
    go_enter Try.func7, Try.ntmps7
    go_wp2
    go_ret
    exact ⟨rfl, Below.refl _ _⟩

end Go.Proofs.Ytilodlmjamaiiaa.Asc
