/- The contracts of the reference's ParseURI (all inputs) and Resolve. -/
import Derived.Test.YtilodlmjamaiiaaTarRUri
set_option linter.unusedVariables false
set_option linter.unusedSimpArgs false
namespace Go.Proofs.Ytilodlmjamaiiaa.Asc
open Go.RowKit

theorem head_at {t : ByteArray} (h0 : 0 < t.size) : t.data.toList.head? = some t[0] := by
  rw [List.head?_eq_getElem?, List.getElem?_eq_getElem (by simpa using h0)]; rfl
theorem head_is {t : ByteArray} (h0 : 0 < t.size) (h : ((t[0].toNat : Int) == 47) = true) : t.data.toList.head? = some 47 := by
  rw [head_at h0, byte_eq (n := 47) h (by omega)]; rfl
theorem head_isnt {t : ByteArray} (h0 : 0 < t.size) (h : ((t[0].toNat : Int) == 47) = false) : t.data.toList.head? ≠ some 47 := by
  rw [head_at h0]
  intro e
  exact byte_ne (n := 47) h (by omega) (by simpa using e)
theorem take_while {p : UInt8 → Bool} (m : List UInt8) : m.take (m.takeWhile p).length = m.takeWhile p ∧ m.drop (m.takeWhile p).length = m.dropWhile p := by
  have h := List.takeWhile_append_dropWhile (p := p) (l := m)
  have a := List.take_left (l₁ := m.takeWhile p) (l₂ := m.dropWhile p)
  have b := List.drop_left (l₁ := m.takeWhile p) (l₂ := m.dropWhile p)
  rw [h] at a b
  exact ⟨a, b⟩
theorem pos_of {t : ByteArray} (he : t.toList.isEmpty = false) : 0 < t.size := by
  rcases Nat.eq_zero_or_pos t.size with q | q
  · have : t.data.toList = [] := List.eq_nil_of_length_eq_zero (by simpa using q)
    rw [toList_data, this] at he; cases he
  · exact q
theorem rParseURI_any (t h : ByteArray) (w : World) (ht : t.size ≤ 50000) (hh : h.size ≤ 50000) :
    Calls Try.prog 11 #[.string t, .string h] w fun e w' => e = .returned (uriV (uriL t.data.toList h.data.toList)) ∧ Below w.heap.size w w' := by
  rcases he : t.toList.isEmpty with _ | _
  · have h0 := pos_of he
    rcases h47 : ((t[0].toNat : Int) == 47) with _ | _
    · have hn := head_isnt h0 h47
      rcases hs : schemeB t.data.toList with _ | _
      · exact rURI_form t h w (by omega) (.inr ⟨h0, h47, he⟩) (box hs) (box (by unfold restL; rw [if_neg hn, if_neg (by rw [hs]; simp)]))
      · obtain ⟨k1, k2⟩ := take_while (p := endB) (t.data.toList.drop 7)
        have hz : t.data.toList.length = t.size := by simp
        have h7 : 7 ≤ t.size := by
          unfold schemeB at hs
          simp only [Bool.and_eq_true, decide_eq_true_eq] at hs
          omega
        obtain ⟨e, heq⟩ : ∃ e, e = 7 + ((t.data.toList.drop 7).takeWhile endB).length := ⟨_, rfl⟩
        have hle : ((t.data.toList.drop 7).takeWhile endB).length ≤ (t.data.toList.drop 7).length := List.Sublist.length_le (List.takeWhile_sublist _)
        rw [List.length_drop, hz] at hle
        have hes : e ≤ t.size := by omega
        have ha : (t.extract 7 e).data.toList = (t.data.toList.drop 7).takeWhile endB := by
          rw [ext_bs, bs_toList, heq, ← List.take_drop, k1]
        have hr : (t.extract e t.size).data.toList = (t.data.toList.drop 7).dropWhile endB := by
          rw [ext_bs, bs_toList, List.take_of_length_le (by simp), heq, ← List.drop_drop, k2]
        refine rURI_scheme t h w ht h0 he h47 (box hs) e (by omega) hes heq _ _ (by rw [ByteArray.size_extract]; omega) (by rw [ByteArray.size_extract]; omega) (box rfl) (box rfl) (box ?_)
        unfold uriL restL
        rw [if_neg hn, if_pos hs, ha, hr]
    · have hn := head_is h0 h47
      exact rURI_slash t h w ht hh h0 he h47 (box (by unfold uriL restL; rw [if_pos hn]))
  · have hnil : t.data.toList = [] := by rw [toList_data] at he; exact List.isEmpty_iff.mp he
    exact rURI_form t h w (by omega) (.inl he) (box (by rw [hnil]; rfl)) (box (by rw [hnil]; rfl))

def resV (r : U × Bool) : Value := .tuple #[uV (bs r.1.1) r.1.2.1 (bs r.1.2.2.1) (bs r.1.2.2.2.1) r.1.2.2.2.2, .bool r.2]
theorem ret_res {a b : U × Bool} (h : a = b) : Ending.returned (resV a) = .returned (resV b) := by rw [h]
theorem below_usetg {w w1 : World} {g : Nat} (h : Below w.heap.size w w1) (hg : w.heap.size ≤ g) (v0 v1 v2 v3 v4 : Value) : Below w.heap.size w (((((w1.setCell ⟨g, 0, none⟩ v0).setCell ⟨g, 1, none⟩ v1).setCell ⟨g, 2, none⟩ v2).setCell ⟨g, 3, none⟩ v3).setCell ⟨g, 4, none⟩ v4) :=
  ((((h.setCell (p := ⟨g, 0, none⟩) hg v0).setCell (p := ⟨g, 1, none⟩) hg v1).setCell (p := ⟨g, 2, none⟩) hg v2).setCell (p := ⟨g, 3, none⟩) hg v3).setCell (p := ⟨g, 4, none⟩) hg v4
theorem rResolve_no (x : ByteArray) (n : Int) (p q : ByteArray) (b : Bool) (s : ByteArray) (w : World) (hs : s.size ≤ 50000) (HS : Box (schemeB s.data.toList = false))
    (H : s.toList.isEmpty = true ∨ (s.toList.isEmpty = false ∧ ∃ h0 : 0 < s.size, ((s[0].toNat : Int) != 47) = true) ∨ (s.toList.isEmpty = false ∧ ∃ h1 : 1 < s.size, ((s[0].toNat : Int) != 47) = false ∧ ((s[1].toNat : Int) == 47) = true))
    (HR : Box (resL (x.data.toList, n, p.data.toList, q.data.toList, b) s.data.toList = (zeroU, false))) :
    Calls Try.prog 20 #[uV x n p q b, .string s] w fun e w' => e = .returned (resV (resL (x.data.toList, n, p.data.toList, q.data.toList, b) s.data.toList)) ∧ Below w.heap.size w w' := by
  unfold uV
  rcases H with e1 | ⟨e1, h0, e2⟩ | ⟨e1, h1, e2, e3⟩
  all_goals
    go_enter Try.func20, Try.ntmps20
    go_wp2_with fail
    refine (rscheme_any s _ (by omega)).mono ?_; rintro e w1 ⟨rfl, hb1⟩; rw [HS.out]
    have b0 : Below w.heap.size w ((w.alloc (.cells #[.string x, .int .i64 n, .string p, .string q, .bool b] 23)).alloc (.cells #[.string ByteArray.empty, .int .i64 0, .string ByteArray.empty, .string ByteArray.empty, .bool false] 23)) := (below_alloc1 w (.cells #[.string x, .int .i64 n, .string p, .string q, .bool b] 23)).alloc (below_alloc1 w _).size _
    have b1 := b0.trans (hb1.mono b0.size)
    have R := (UF.new1 w ByteArray.empty 0 ByteArray.empty ByteArray.empty false (.cells #[.string x, .int .i64 n, .string p, .string q, .bool b] 23) 23).below hb1 (by simp)
    obtain ⟨⟨r0, r1, r2, r3, r4⟩, ⟨f0, f1, f2, f3, f4⟩⟩ := R
    clear hb1 b0
    go_wp2
    (try simp only [Exit.inBlock, Exit.then])
    refine bodyPost_ret (v := resV (zeroU, false)) (by rw [results_cell_tmp rfl]; go_simp; rfl) rfl ⟨?_, ?_⟩
    · exact ret_res (by rw [HR.out])
    · exact below_usetg b1 (Nat.le_succ _) _ _ _ _ _

set_option maxHeartbeats 800000 in
theorem rResolve_yes (x : ByteArray) (n : Int) (p q : ByteArray) (b : Bool) (s : ByteArray) (w : World) (hs : s.size ≤ 50000) (hx : x.size ≤ 40000) (hn : Box (InI64 n)) (sc : Bool) (HS : Box (schemeB s.data.toList = sc))
    (H : sc = true ∨ (sc = false ∧ s.toList.isEmpty = false ∧ ∃ h0 : 0 < s.size, ((s[0].toNat : Int) != 47) = false ∧ ¬ 1 < s.size) ∨ (sc = false ∧ s.toList.isEmpty = false ∧ ∃ h1 : 1 < s.size, ((s[0].toNat : Int) != 47) = false ∧ ((s[1].toNat : Int) == 47) = false))
    (x2 : List UInt8) (n2 : Int) (p2 q2 : List UInt8) (b2 : Bool) (e2 : Int) (HU : Box (uriL s.data.toList (siteL x.data.toList n) = ((x2, n2, p2, q2, b2), e2)))
    (HR : Box (resL (x.data.toList, n, p.data.toList, q.data.toList, b) s.data.toList = ((x2, n2, p2, q2, b2), decide (e2 = 0)))) :
    Calls Try.prog 20 #[uV x n p q b, .string s] w fun e w' => e = .returned (resV (resL (x.data.toList, n, p.data.toList, q.data.toList, b) s.data.toList)) ∧ Below w.heap.size w w' := by
  have HSI : Box ((bs (siteL x.data.toList n)).size ≤ 50000) := box (by have := site_le x n; omega)
  unfold uV
  rcases H with e1 | ⟨e1, e3, h0, e4, e5⟩ | ⟨e1, e3, h1, e4, e5⟩
  all_goals
    subst e1
    go_enter Try.func20, Try.ntmps20
    go_wp2_with fail
    refine (rscheme_any s _ (by omega)).mono ?_; rintro e w1 ⟨rfl, hb1⟩; rw [HS.out]
    have b0 : Below w.heap.size w ((w.alloc (.cells #[.string x, .int .i64 n, .string p, .string q, .bool b] 23)).alloc (.cells #[.string ByteArray.empty, .int .i64 0, .string ByteArray.empty, .string ByteArray.empty, .bool false] 23)) := (below_alloc1 w (.cells #[.string x, .int .i64 n, .string p, .string q, .bool b] 23)).alloc (below_alloc1 w _).size _
    have b1 := b0.trans (hb1.mono b0.size)
    have R1 := box ((UF.new1 w ByteArray.empty 0 ByteArray.empty ByteArray.empty false (.cells #[.string x, .int .i64 n, .string p, .string q, .bool b] 23) 23).below hb1 (by simp))
    have V1 := ((UF.new x n p q b w 23).below (below_alloc1 _ (.cells #[.string ByteArray.empty, .int .i64 0, .string ByteArray.empty, .string ByteArray.empty, .bool false] 23)) (by simp)).below hb1 (by simp <;> omega)
    obtain ⟨⟨u0, u1, u2, u3, u4⟩, _⟩ := V1
    clear hb1 b0
    go_wp2_with fail
    refine (rSite_any x n p q b _ (by omega) hn).mono ?_; rintro e w2 ⟨rfl, hb2⟩
    have R2 := box (R1.out.below hb2 R1.out.lt)
    have b2' := b1.trans (hb2.mono b1.size)
    clear hb2 b1 u0 u1 u2 u3 u4
    go_wp2_with fail
    refine (rParseURI_any s _ _ hs HSI.out).mono ?_; rintro e w3 ⟨rfl, hb3⟩; rw [bs_toList, HU.out]
    have R3 := R2.out.below hb3 R2.out.lt
    have hlt := R3.lt
    have b3 := b2'.trans (hb3.mono b2'.size)
    clear hb3 b2'
    obtain ⟨⟨r0, r1, r2, r3, r4⟩, ⟨f0, f1, f2, f3, f4⟩⟩ := R3
    unfold uriV uV
    go_wp2
    (try simp only [Exit.inBlock, Exit.then])
    refine bodyPost_ret (v := .tuple #[uV (bs x2) n2 (bs p2) (bs q2) b2, .bool ((e2 : Int) == 0)]) (by rw [results_cell_tmp rfl]; go_simp; rfl) rfl ⟨?_, ?_⟩
    · rw [HR.out]; unfold resV; rfl
    · exact (below_usetg b3 (Nat.le_succ _) _ _ _ _ _).alloc (below_usetg b3 (Nat.le_succ _) _ _ _ _ _).size _

theorem res_yes {u : U} {s : List UInt8} {u2 : U} {e2 : Int} (h : refB s = true) (hu : uriL s (siteL u.1 u.2.1) = (u2, e2)) : resL u s = (u2, decide (e2 = 0)) := by
  unfold resL; rw [if_pos h, hu]
theorem res_no {u : U} {s : List UInt8} (h : refB s = false) : resL u s = (zeroU, false) := by
  unfold resL; rw [if_neg (by rw [h]; simp)]
theorem second_at {s : ByteArray} (h1 : 1 < s.size) : (s.data.toList.drop 1).head? = some s[1] := by
  rw [List.head?_drop, List.getElem?_eq_getElem (by simpa using h1)]; rfl
theorem rResolve_any (x : ByteArray) (n : Int) (p q : ByteArray) (b : Bool) (s : ByteArray) (w : World) (hs : s.size ≤ 50000) (hx : x.size ≤ 40000) (hn : Box (InI64 n)) :
    Calls Try.prog 20 #[uV x n p q b, .string s] w fun e w' => e = .returned (resV (resL (x.data.toList, n, p.data.toList, q.data.toList, b) s.data.toList)) ∧ Below w.heap.size w w' := by
  obtain ⟨x2, n2, p2, q2, b2, e2, hu⟩ : ∃ x2 n2 p2 q2 b2 e2, uriL s.data.toList (siteL x.data.toList n) = ((x2, n2, p2, q2, b2), e2) := ⟨_, _, _, _, _, _, rfl⟩
  rcases hsc : schemeB s.data.toList with _ | _
  · rcases he : s.toList.isEmpty with _ | _
    · have h0 := pos_of he
      rcases h47 : ((s[0].toNat : Int) != 47) with _ | _
      · have hh : s.data.toList.head? = some 47 := head_is h0 (by simpa using h47)
        by_cases h1 : 1 < s.size
        · rcases h2 : ((s[1].toNat : Int) == 47) with _ | _
          · have hr : refB s.data.toList = true := by
              unfold refB; rw [hsc, hh, second_at h1]
              have : s[1] ≠ 47 := byte_ne (n := 47) h2 (by omega)
              simp [this]
            exact rResolve_yes x n p q b s w hs hx hn false (box hsc) (.inr (.inr ⟨rfl, he, h1, h47, h2⟩)) x2 n2 p2 q2 b2 e2 (box hu) (box (res_yes hr hu))
          · have hr : refB s.data.toList = false := by
              unfold refB; rw [hsc, hh, second_at h1]
              have : s[1] = 47 := byte_eq (n := 47) h2 (by omega)
              simp [this]
            exact rResolve_no x n p q b s w hs (box hsc) (.inr (.inr ⟨he, h1, h47, h2⟩)) (box (res_no hr))
        · have hr : refB s.data.toList = true := by
            unfold refB; rw [hsc, hh]
            have : s.data.toList.drop 1 = [] := List.drop_of_length_le (by simp; omega)
            rw [this]; simp
          exact rResolve_yes x n p q b s w hs hx hn false (box hsc) (.inr (.inl ⟨rfl, he, h0, h47, h1⟩)) x2 n2 p2 q2 b2 e2 (box hu) (box (res_yes hr hu))
      · have hh : s.data.toList.head? ≠ some 47 := head_isnt h0 (by simpa using h47)
        have hr : refB s.data.toList = false := by
          unfold refB; rw [hsc]; simp [hh]
        exact rResolve_no x n p q b s w hs (box hsc) (.inr (.inl ⟨he, h0, h47⟩)) (box (res_no hr))
    · have hnil : s.data.toList = [] := by rw [toList_data] at he; exact List.isEmpty_iff.mp he
      have hr : refB s.data.toList = false := by rw [hnil]; rfl
      exact rResolve_no x n p q b s w hs (box hsc) (.inl he) (box (res_no hr))
  · have hr : refB s.data.toList = true := by unfold refB; rw [hsc]; rfl
    exact rResolve_yes x n p q b s w hs hx hn true (box hsc) (.inl rfl) x2 n2 p2 q2 b2 e2 (box hu) (box (res_yes hr hu))

end Go.Proofs.Ytilodlmjamaiiaa.Asc
