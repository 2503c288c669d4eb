/- The contract of package target's Resolve. -/
import Derived.Test.YtilodlmjamaiiaaTarMine
set_option linter.unusedVariables false
set_option linter.unusedSimpArgs false
namespace Go.Proofs.Ytilodlmjamaiiaa.Asc
open Go.RowKit

theorem scheme_head {l : List UInt8} (h : schemeB l = true) : l.head? ≠ some 47 := by
  intro e
  match l, e with
  | c :: s, e =>
    simp at e; subst e
    unfold schemeB at h
    simp only [Bool.and_eq_true] at h
    have hf := h.2
    unfold foldL at hf
    simp [lowL, http] at hf
    exact absurd hf.1 (by decide)
theorem pre_two (l : List UInt8) : preB l [47, 47] = (decide (l.head? = some 47) && decide ((l.drop 1).head? = some 47)) := by
  match l with
  | [] => rfl
  | [c] =>
    show ((47 : UInt8) == c && false) = _
    simp
  | c :: d :: r =>
    show ((47 : UInt8) == c && ((47 : UInt8) == d && List.isPrefixOf [] r)) = _
    rw [Bool.eq_iff_iff]
    simp
    constructor
    · rintro ⟨h1, h2⟩; exact ⟨h1.symm, h2.symm⟩
    · rintro ⟨h1, h2⟩; exact ⟨h1.symm, h2.symm⟩
theorem res_two {u : U} {s : List UInt8} (h : preB s [47, 47] = true) : resL u s = (zeroU, false) := by
  rw [pre_two] at h
  simp only [Bool.and_eq_true, decide_eq_true_eq] at h
  refine res_no ?_
  unfold refB
  rcases hs : schemeB s with _ | _
  · rw [h.1, h.2]; rfl
  · exact absurd h.1 (scheme_head hs)
theorem res_else {u : U} {s : List UInt8} (h : preB s [47, 47] = false) {u2 : U} {e2 : Int} (hu : uriL s (siteL u.1 u.2.1) = (u2, e2)) : resL u s = (u2, decide (e2 = 0)) := by
  rcases hr : refB s with _ | _
  · have h2 : schemeB s = false ∧ s.head? ≠ some 47 := by
      unfold refB at hr
      rw [pre_two] at h
      simp only [Bool.or_eq_false_iff] at hr
      refine ⟨hr.1, fun e => ?_⟩
      rw [e] at hr h
      simp at hr h
      exact h hr.2
    have h3 : restL s (siteL u.1 u.2.1) = none := by unfold restL; rw [if_neg h2.2, if_neg (by rw [h2.1]; simp)]
    have h4 : uriL s (siteL u.1 u.2.1) = (zeroU, 9) := by unfold uriL; rw [h3]
    rw [h4] at hu
    cases hu
    rw [res_no hr]; rfl
  · exact res_yes hr hu
set_option maxHeartbeats 800000 in
theorem tResolve_any (x : ByteArray) (n : Int) (p q : ByteArray) (b : Bool) (s : ByteArray) (w : World) (hs : s.size ≤ 49000) (hx : x.size ≤ 40000) (hn : Box (InI64 n)) :
    Calls Try.prog 19 #[uV x n p q b, .string s] w fun e w' => e = .returned (resV (resL (x.data.toList, n, p.data.toList, q.data.toList, b) s.data.toList)) ∧ Below w.heap.size w w' := by
  have HSI : Box ((bs (siteL x.data.toList n)).size ≤ 49000) := box (by have := site_le x n; omega)
  have b0 : Below w.heap.size w ((w.alloc (.cells #[.string x, .int .i64 n, .string p, .string q, .bool b] 23)).alloc (.cells #[.string ByteArray.empty, .int .i64 0, .string ByteArray.empty, .string ByteArray.empty, .bool false] 23)) := (below_alloc1 w (.cells #[.string x, .int .i64 n, .string p, .string q, .bool b] 23)).alloc (below_alloc1 w _).size _
  have B0 := box b0
  have R0 := box (UF.new1 w ByteArray.empty 0 ByteArray.empty ByteArray.empty false (.cells #[.string x, .int .i64 n, .string p, .string q, .bool b] 23) 23)
  have V0 := box ((UF.new x n p q b w 23).below (below_alloc1 _ (.cells #[.string ByteArray.empty, .int .i64 0, .string ByteArray.empty, .string ByteArray.empty, .bool false] 23)) (by simp))
  clear b0
  rcases h2 : preB s.data.toList [47, 47] with _ | _
  · obtain ⟨x2, n2, p2, q2, b2, e2, hu⟩ : ∃ x2 n2 p2 q2 b2 e2, uriL s.data.toList (siteL x.data.toList n) = ((x2, n2, p2, q2, b2), e2) := ⟨_, _, _, _, _, _, rfl⟩
    have HU := box hu
    have HR := box (res_else (u := (x.data.toList, n, p.data.toList, q.data.toList, b)) h2 hu)
    have HP := box h2
    clear hu h2
    unfold uV
    go_enter Try.func19, Try.ntmps19
    go_wp2_with fail
    refine (HasPrefix_is (s := s) (p := ⟨#[47, 47]⟩) (by omega) (by decide) HP).mono ?_; rintro e w1 ⟨rfl, rfl⟩
    obtain ⟨⟨u0, u1, u2, u3, u4⟩, _⟩ := V0.out
    go_wp2_with fail
    refine (tSite_any x n p q b _ (by omega) hn).mono ?_; rintro e w2 ⟨rfl, hb2⟩
    have R2 := box (R0.out.below hb2 R0.out.lt)
    have B2 := box (B0.out.trans (hb2.mono B0.out.size))
    clear hb2 u0 u1 u2 u3 u4
    go_wp2_with fail
    refine (tParse_any s _ _ hs HSI.out).mono ?_; rintro e w3 ⟨rfl, hb3⟩; rw [bs_toList, HU.out]
    have R3 := R2.out.below hb3 R2.out.lt
    have hlt := R3.lt
    have b3 := B2.out.trans (hb3.mono B2.out.size)
    clear hb3
    obtain ⟨⟨r0, r1, r2, r3, r4⟩, ⟨f0, f1, f2, f3, f4⟩⟩ := R3
    unfold uriV uV
    go_wp2
    (try simp only [Exit.inBlock, Exit.then])
    refine bodyPost_ret (v := .tuple #[uV (bs x2) n2 (bs p2) (bs q2) b2, .bool ((e2 : Int) == 0)]) (by rw [results_cell_tmp rfl]; go_simp; rfl) rfl ⟨?_, ?_⟩
    · rw [HR.out]; unfold resV; rfl
    · exact (below_usetg b3 (Nat.le_succ _) _ _ _ _ _).alloc (below_usetg b3 (Nat.le_succ _) _ _ _ _ _).size _
  · have HP := box h2
    have HR := box (res_two (u := (x.data.toList, n, p.data.toList, q.data.toList, b)) h2)
    clear h2
    unfold uV
    go_enter Try.func19, Try.ntmps19
    go_wp2_with fail
    refine (HasPrefix_is (s := s) (p := ⟨#[47, 47]⟩) (by omega) (by decide) HP).mono ?_; rintro e w1 ⟨rfl, rfl⟩
    obtain ⟨⟨r0, r1, r2, r3, r4⟩, ⟨f0, f1, f2, f3, f4⟩⟩ := R0.out
    go_wp2
    (try simp only [Exit.inBlock, Exit.then])
    refine bodyPost_ret (v := resV (zeroU, false)) (by rw [results_cell_tmp rfl]; go_simp; rfl) rfl ⟨?_, ?_⟩
    · exact ret_res (by rw [HR.out])
    · exact (below_alloc1 w _).alloc (below_alloc1 w _).size _

end Go.Proofs.Ytilodlmjamaiiaa.Asc
