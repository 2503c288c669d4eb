/- The contracts of package target's formatAuthority, Key, Parse and Resolve. -/
import Derived.Test.YtilodlmjamaiiaaTarRRes
import Derived.Test.YtilodlmjamaiiaaTarSpl
import Derived.Test.YtilodlmjamaiiaaTarTAu
import Derived.Test.YtilodlmjamaiiaaTarTNo
import Derived.Test.YtilodlmjamaiiaaTarTSe
set_option linter.unusedVariables false
set_option linter.unusedSimpArgs false
namespace Go.Proofs.Ytilodlmjamaiiaa.Asc
open Go.RowKit

theorem tSite_any (h : ByteArray) (n : Int) (p q : ByteArray) (b : Bool) (w : World) (hh : h.size ≤ 60000) (hn : Box (InI64 n)) :
    Calls Try.prog 39 #[uV h n p q b] w fun e w' => e = .returned (.string (bs (siteL h.data.toList n))) ∧ Below w.heap.size w w' := by
  unfold uV
  rcases h80 : ((n : Int) == 80) with _ | _
  · have hne : n ≠ 80 := by simpa using h80
    have HS : Box (siteL h.data.toList n = h.data.toList ++ 58 :: decL n) := box (by unfold siteL; rw [if_neg hne])
    have hd := decL_le n
    clear hne
    have r1 : ∀ w, (Op.stringOp .add h ⟨#[58]⟩).run Try.prog w = .ok (.string (h ++ ⟨#[58]⟩)) w := fun w => run_string_add_sum w _ _ (by show h.size + 1 ≤ 9223372036854775807; omega)
    have r2 : ∀ w, (Op.stringOp .add (h ++ ⟨#[58]⟩) ⟨(decL n).toArray⟩).run Try.prog w = .ok (.string (h ++ ⟨#[58]⟩ ++ ⟨(decL n).toArray⟩)) w := fun w => run_string_add_sum w _ _ (by rw [ByteArray.size_append]; show h.size + 1 + (⟨(decL n).toArray⟩ : ByteArray).size ≤ 9223372036854775807; omega)
    go_enter Try.func39, Try.ntmps39
    go_wp2_with fail
    go_region_held3 (fun w' => w'.cell? ⟨w.heap.size, 0, none⟩ = some (.string h) ∧ w'.cell? ⟨w.heap.size, 1, none⟩ = some (.int .i64 n))
      (first | go_keep | (refine ⟨?_, ?_⟩ <;> (rw [hb1.cell (by simp)]; first | assumption | (simp; done))))
      (first | (go_at_call 54; refine (Decimal_any _ _ hn.out).mono ?_; rintro e w1 ⟨rfl, hb1⟩))
    have b1 := (below_alloc1 w (.cells #[.string h, .int .i64 n, .string p, .string q, .bool b] 23)).drew.trans (hb1.mono (below_alloc1 w (.cells #[.string h, .int .i64 n, .string p, .string q, .bool b] 23)).drew.size)
    clear r1 r2 hb1
    go_wp2
    go_ret
    exact ⟨ret_str (by rw [HS.out]; exact site_bs h n), b1⟩
  · have he : n = 80 := by simpa using h80
    have HS : Box (siteL h.data.toList n = h.data.toList) := box (by unfold siteL; rw [if_pos he])
    clear he
    go_enter Try.func39, Try.ntmps39
    go_wp2
    go_ret
    exact ⟨ret_str (by rw [HS.out]; rfl), below_alloc1 _ _⟩
theorem tKey_any (h : ByteArray) (n : Int) (p q : ByteArray) (b : Bool) (w : World) (hh : h.size ≤ 50000) (hp : p.size ≤ 50000) (hq : q.size ≤ 50000) (hn : Box (InI64 n)) :
    Calls Try.prog 21 #[uV h n p q b] w fun e w' => e = .returned (.string (bs (keyL (h.data.toList, n, p.data.toList, q.data.toList, b)))) ∧ Below w.heap.size w w' := by
  have F0 := box (UF.new h n p q b w 23)
  have F0d := box (F0.out.below (Below.refl _ _).drew F0.out.lt)
  obtain ⟨st, hst⟩ : ∃ st, bs (siteL h.data.toList n) = st := ⟨_, rfl⟩
  have hs1 : st.size ≤ 60022 := by rw [← hst]; have := site_le h n; omega
  have ST := box hst
  have r1 : ∀ w, (Op.stringOp .add ⟨#[104, 116, 116, 112, 58, 47, 47]⟩ st).run Try.prog w = .ok (.string (⟨#[104, 116, 116, 112, 58, 47, 47]⟩ ++ st)) w := fun w => run_string_add_sum w _ _ (by show 7 + st.size ≤ 9223372036854775807; omega)
  have r2 : ∀ w, (Op.stringOp .add (⟨#[104, 116, 116, 112, 58, 47, 47]⟩ ++ st) p).run Try.prog w = .ok (.string (⟨#[104, 116, 116, 112, 58, 47, 47]⟩ ++ st ++ p)) w := fun w => run_string_add_sum w _ _ (by rw [ByteArray.size_append]; show 7 + st.size + p.size ≤ 9223372036854775807; omega)
  have r3 : ∀ w, (Op.stringOp .add ⟨#[63]⟩ q).run Try.prog w = .ok (.string (⟨#[63]⟩ ++ q)) w := fun w => run_string_add_sum w _ _ (by show 1 + q.size ≤ 9223372036854775807; omega)
  have r4 : ∀ w, (Op.stringOp .add (⟨#[104, 116, 116, 112, 58, 47, 47]⟩ ++ st ++ p) (⟨#[63]⟩ ++ q)).run Try.prog w = .ok (.string (⟨#[104, 116, 116, 112, 58, 47, 47]⟩ ++ st ++ p ++ (⟨#[63]⟩ ++ q))) w := fun w => run_string_add_sum w _ _ (by rw [ByteArray.size_append, ByteArray.size_append, ByteArray.size_append]; show 7 + st.size + p.size + (1 + q.size) ≤ 9223372036854775807; omega)
  cases b
  · have HK : Box ((⟨#[104, 116, 116, 112, 58, 47, 47]⟩ : ByteArray) ++ st ++ p = bs (keyL (h.data.toList, n, p.data.toList, q.data.toList, false))) := box (by
      rw [← hst]
      apply ByteArray.ext
      apply Array.toList_inj.mp
      simp [ByteArray.data_append, bs, keyL, http, localL])
    clear hst
    unfold uV
    go_enter Try.func21, Try.ntmps21
    go_wp2_with fail
    go_region_held3 (fun w' => w'.cell? ⟨w.heap.size, 0, none⟩ = some (.string h) ∧ w'.cell? ⟨w.heap.size, 1, none⟩ = some (.int .i64 n) ∧ w'.cell? ⟨w.heap.size, 2, none⟩ = some (.string p) ∧ w'.cell? ⟨w.heap.size, 3, none⟩ = some (.string q) ∧ w'.cell? ⟨w.heap.size, 4, none⟩ = some (.bool false))
      (first | exact F1.out.1 | exact F0d.out.1 | exact F0.out.1 | go_keep)
      (first | (go_at_call 39; refine (tSite_any h n p q false _ (by omega) hn).mono ?_; rintro e w1 ⟨rfl, hb1⟩; rw [ST.out]; have F1 := box (F0d.out.below hb1 F0d.out.lt)))
    have b0 := (below_alloc1 w (.cells #[.string h, .int .i64 n, .string p, .string q, .bool false] 23)).drew
    have b1 := b0.trans (hb1.mono b0.size)
    clear r1 r2 r3 r4 b0 hb1
    obtain ⟨⟨u0, u1, u2, u3, u4⟩, _⟩ := F1.out
    go_wp2
    go_ret
    exact ⟨ret_str HK.out, b1⟩
  · have HK : Box ((⟨#[104, 116, 116, 112, 58, 47, 47]⟩ : ByteArray) ++ st ++ p ++ (⟨#[63]⟩ ++ q) = bs (keyL (h.data.toList, n, p.data.toList, q.data.toList, true))) := box (by
      rw [← hst]
      apply ByteArray.ext
      apply Array.toList_inj.mp
      simp [ByteArray.data_append, bs, keyL, http, localL])
    clear hst
    unfold uV
    go_enter Try.func21, Try.ntmps21
    go_wp2_with fail
    go_region_held3 (fun w' => w'.cell? ⟨w.heap.size, 0, none⟩ = some (.string h) ∧ w'.cell? ⟨w.heap.size, 1, none⟩ = some (.int .i64 n) ∧ w'.cell? ⟨w.heap.size, 2, none⟩ = some (.string p) ∧ w'.cell? ⟨w.heap.size, 3, none⟩ = some (.string q) ∧ w'.cell? ⟨w.heap.size, 4, none⟩ = some (.bool true))
      (first | exact F1.out.1 | exact F0d.out.1 | exact F0.out.1 | go_keep)
      (first | (go_at_call 39; refine (tSite_any h n p q true _ (by omega) hn).mono ?_; rintro e w1 ⟨rfl, hb1⟩; rw [ST.out]; have F1 := box (F0d.out.below hb1 F0d.out.lt)))
    have b0 := (below_alloc1 w (.cells #[.string h, .int .i64 n, .string p, .string q, .bool true] 23)).drew
    have b1 := b0.trans (hb1.mono b0.size)
    clear r1 r2 b0 hb1
    obtain ⟨⟨u0, u1, u2, u3, u4⟩, _⟩ := F1.out
    go_wp2
    go_ret
    exact ⟨ret_str HK.out, b1⟩

theorem tNorm_is {s : ByteArray} {o : Option (List UInt8)} {w : World} (hs : Box (s.size ≤ 60000)) (h : Box (normL s.data.toList = o)) :
    Calls Try.prog 15 #[.string s] w fun e w' => e = .returned (optV o) ∧ Below w.heap.size w w' :=
  (tNormalize_any s w hs.out).mono fun e w' ⟨h1, h2⟩ => ⟨by rw [h1, h.out], h2⟩
theorem tAuth_is {s : ByteArray} {o : Option (List UInt8 × Int)} {w : World} (hs : Box (s.size ≤ 50000)) (h : Box (authL s.data.toList = o)) :
    Calls Try.prog 13 #[.string s] w fun e w' => e = .returned (authV o) ∧ Below w.heap.size w w' :=
  (tAuthority_any s w hs.out).mono fun e w' ⟨h1, h2⟩ => ⟨by rw [h1, h.out], h2⟩
theorem tSeg_is {s : ByteArray} {x : List UInt8} {w : World} (hs : Box (s.size ≤ 50000)) (h : Box (segL s.data.toList = x)) :
    Calls Try.prog 17 #[.string s] w fun e w' => e = .returned (.string (bs x)) ∧ Below w.heap.size w w' :=
  (tSegments_any s w hs.out).mono fun e w' ⟨h1, h2⟩ => ⟨by rw [h1, h.out], h2⟩
theorem tSplit_is {t h : ByteArray} {o : Option (List UInt8 × List UInt8)} {w : World} (ht : t.size ≤ 50000) (hr : Box (restL t.data.toList h.data.toList = o)) :
    Calls Try.prog 23 #[.string t, .string h] w fun e w' => e = .returned (splV o) ∧ Below w.heap.size w w' :=
  (tSplit_any t h w ht).mono fun e w' ⟨h1, h2⟩ => ⟨by rw [h1, hr.out], h2⟩
theorem rest_le {t h a r : List UInt8} (hr : restL t h = some (a, r)) : (a.length ≤ h.length ∨ a.length ≤ t.length) ∧ r.length ≤ t.length := by
  unfold restL at hr
  split at hr
  · cases hr; exact ⟨.inl (Nat.le_refl _), Nat.le_refl _⟩
  · split at hr
    · cases hr
      have h1 := List.Sublist.length_le (List.takeWhile_sublist endB (l := t.drop 7))
      have h2 := List.Sublist.length_le (List.dropWhile_sublist endB (l := t.drop 7))
      rw [List.length_drop] at h1 h2
      exact ⟨.inr (by omega), by omega⟩
    · cases hr
/-- a result that is a URI in the call's own block -/
theorem tParse_none (t h : ByteArray) (w : World) (ht : t.size ≤ 50000) (HR : Box (restL t.data.toList h.data.toList = none)) (HE : Box (uriL t.data.toList h.data.toList = (zeroU, 9))) :
    Calls Try.prog 10 #[.string t, .string h] w fun e w' => e = .returned (uriV (uriL t.data.toList h.data.toList)) ∧ Below w.heap.size w w' := by
  have R0 := box (UF.new ByteArray.empty 0 ByteArray.empty ByteArray.empty false w 23)
  have B0 := box (below_alloc1 w (.cells #[.string ByteArray.empty, .int .i64 0, .string ByteArray.empty, .string ByteArray.empty, .bool false] 23))
  go_enter Try.func10, Try.ntmps10
  go_wp2_with fail
  refine (tSplit_is ht HR).mono ?_; rintro e w1 ⟨rfl, hb1⟩; unfold splV
  have R1 := R0.out.below hb1 R0.out.lt
  have b1 := B0.out.trans (hb1.mono B0.out.size)
  obtain ⟨⟨r0, r1, r2, r3, r4⟩, ⟨f0, f1, f2, f3, f4⟩⟩ := R1
  clear hb1
  go_wp2
  (try simp only [Exit.inBlock, Exit.then])
  refine bodyPost_ret (v := uriV (zeroU, 9)) (by rw [results_cell_tmp rfl]; go_simp; rfl) rfl ⟨?_, ?_⟩
  · rw [HE.out]
  · exact below_uset b1 _ _ _ _ _
theorem slash_le (p : List UInt8) : (slashL p).length ≤ p.length + 1 := by unfold slashL; split <;> simp
theorem cut_lens (c : UInt8) (l : List UInt8) : (cut1 c l).length ≤ l.length ∧ (cut2 c l).length ≤ l.length := by
  rcases h : cutB c l with _ | _
  · have hn : c ∉ l := by simpa [cutB] using h
    rw [(cut_none hn).1, (cut_none hn).2]; simp
  · have := congrArg List.length (cut_join h)
    simp at this; omega
set_option maxHeartbeats 1000000 in
theorem tParse_some (t h : ByteArray) (w : World) (ht : t.size ≤ 50000) (a r : List UInt8) (HR : Box (restL t.data.toList h.data.toList = some (a, r))) (HAS : Box ((bs a).size ≤ 50000)) (hrs : r.length ≤ 50000 - 1) (HE : Box (uriL t.data.toList h.data.toList = partsL a r)) :
    Calls Try.prog 10 #[.string t, .string h] w fun e w' => e = .returned (uriV (uriL t.data.toList h.data.toList)) ∧ Below w.heap.size w w' := by
  have R0 := box (UF.new ByteArray.empty 0 ByteArray.empty ByteArray.empty false w 23)
  have B0 := box (below_alloc1 w (.cells #[.string ByteArray.empty, .int .i64 0, .string ByteArray.empty, .string ByteArray.empty, .bool false] 23))
  have hlr : (bs r).size = r.length := bs_size r
  have HRM : Box ((bs r).size ≤ maxLen) := box (by unfold maxLen; omega)
  have hcl := cut_lens 63 r
  have H1S : Box ((bs (cut1 63 r)).size ≤ 60000) := box (by rw [bs_size]; omega)
  have H2S : Box ((bs (cut2 63 r)).size ≤ 60000) := box (by rw [bs_size]; omega)
  obtain ⟨po, hpo⟩ : ∃ po, normL (cut1 63 r) = po := ⟨_, rfl⟩
  obtain ⟨qo, hqo⟩ : ∃ qo, normL (cut2 63 r) = qo := ⟨_, rfl⟩
  obtain ⟨ao, hao⟩ : ∃ ao, authL a = ao := ⟨_, rfl⟩
  obtain ⟨m, hm⟩ : ∃ m, cutB 63 r = m := ⟨_, rfl⟩
  have hq : queryL r = qo := by
    unfold queryL
    rw [hm]
    cases m
    · have hn : (63 : UInt8) ∉ r := by simpa [cutB] using hm
      rw [(cut_none hn).2] at hqo
      rw [if_neg (by simp), ← hqo]; rfl
    · rw [if_pos rfl]; exact hqo
  have hp : pathL r = po.map fun p => segL (slashL p) := by unfold pathL; rw [hpo]
  have HP : Box (normL (bs (cut1 63 r)).data.toList = po) := box (by rw [bs_toList]; exact hpo)
  have HQ : Box (normL (bs (cut2 63 r)).data.toList = qo) := box (by rw [bs_toList]; exact hqo)
  have HA : Box (authL (bs a).data.toList = ao) := box (by rw [bs_toList]; exact hao)
  have HM := box hm
  have HC1 : Box (∀ s : ByteArray, s = bs r → cutV 63 s.data.toList = .tuple #[.string (bs (cut1 63 r)), .string (bs (cut2 63 r)), .bool m]) := box (fun s hs => by rw [hs, bs_toList]; unfold cutV; rw [hm])
  rcases po with _ | p
  · have hE2 : partsL a r = (zeroU, 9) := by unfold partsL; rw [hq, hp]; cases qo <;> rfl
    have HE2 := box hE2
    clear hE2 hpo hqo hao hm hq hp hlr hcl
    rcases qo with _ | q
    · go_enter Try.func10, Try.ntmps10
      go_wp2_with fail
      refine (tSplit_is ht HR).mono ?_; rintro e w1 ⟨rfl, hb1⟩; unfold splV
      have R1 := box (R0.out.below hb1 R0.out.lt)
      have B1 := box (B0.out.trans (hb1.mono B0.out.size))
      clear hb1
      go_wp2_with fail
      refine (Cut_any (bs r) 63 _ HRM.out).mono ?_; rintro e w2 ⟨rfl, hb2⟩; rw [HC1.out _ rfl]
      have R2 := box (R1.out.below hb2 R1.out.lt)
      have B2 := box (B1.out.trans (hb2.mono B1.out.size))
      clear hb2
      go_wp2_with fail
      refine (tNorm_is H1S HP).mono ?_; rintro e w3 ⟨rfl, hb3⟩; unfold optV
      have R3 := box (R2.out.below hb3 R2.out.lt)
      have B3 := box (B2.out.trans (hb3.mono B2.out.size))
      clear hb3
      go_wp2_with fail
      refine (tNorm_is H2S HQ).mono ?_; rintro e w4 ⟨rfl, hb4⟩; unfold optV
      have R4 := box (R3.out.below hb4 R3.out.lt)
      have B4 := box (B3.out.trans (hb4.mono B3.out.size))
      clear hb4
      obtain ⟨⟨r0, r1, r2, r3, r4⟩, ⟨f0, f1, f2, f3, f4⟩⟩ := R4.out
      go_wp2
      (try simp only [Exit.inBlock, Exit.then])
      refine bodyPost_ret (v := uriV (zeroU, 9)) (by rw [results_cell_tmp rfl]; go_simp; rfl) rfl ⟨?_, ?_⟩
      · rw [HE.out, HE2.out]
      · exact below_uset B4.out _ _ _ _ _
    · go_enter Try.func10, Try.ntmps10
      go_wp2_with fail
      refine (tSplit_is ht HR).mono ?_; rintro e w1 ⟨rfl, hb1⟩; unfold splV
      have R1 := box (R0.out.below hb1 R0.out.lt)
      have B1 := box (B0.out.trans (hb1.mono B0.out.size))
      clear hb1
      go_wp2_with fail
      refine (Cut_any (bs r) 63 _ HRM.out).mono ?_; rintro e w2 ⟨rfl, hb2⟩; rw [HC1.out _ rfl]
      have R2 := box (R1.out.below hb2 R1.out.lt)
      have B2 := box (B1.out.trans (hb2.mono B1.out.size))
      clear hb2
      go_wp2_with fail
      refine (tNorm_is H1S HP).mono ?_; rintro e w3 ⟨rfl, hb3⟩; unfold optV
      have R3 := box (R2.out.below hb3 R2.out.lt)
      have B3 := box (B2.out.trans (hb3.mono B2.out.size))
      clear hb3
      go_wp2_with fail
      refine (tNorm_is H2S HQ).mono ?_; rintro e w4 ⟨rfl, hb4⟩; unfold optV
      have R4 := box (R3.out.below hb4 R3.out.lt)
      have B4 := box (B3.out.trans (hb4.mono B3.out.size))
      clear hb4
      obtain ⟨⟨r0, r1, r2, r3, r4⟩, ⟨f0, f1, f2, f3, f4⟩⟩ := R4.out
      go_wp2
      (try simp only [Exit.inBlock, Exit.then])
      refine bodyPost_ret (v := uriV (zeroU, 9)) (by rw [results_cell_tmp rfl]; go_simp; rfl) rfl ⟨?_, ?_⟩
      · rw [HE.out, HE2.out]
      · exact below_uset B4.out _ _ _ _ _
  · rcases qo with _ | q
    · have hE2 : partsL a r = (zeroU, 9) := by unfold partsL; rw [hq]
      have HE2 := box hE2
      clear hE2 hpo hqo hao hm hq hp hlr hcl
      go_enter Try.func10, Try.ntmps10
      go_wp2_with fail
      refine (tSplit_is ht HR).mono ?_; rintro e w1 ⟨rfl, hb1⟩; unfold splV
      have R1 := box (R0.out.below hb1 R0.out.lt)
      have B1 := box (B0.out.trans (hb1.mono B0.out.size))
      clear hb1
      go_wp2_with fail
      refine (Cut_any (bs r) 63 _ HRM.out).mono ?_; rintro e w2 ⟨rfl, hb2⟩; rw [HC1.out _ rfl]
      have R2 := box (R1.out.below hb2 R1.out.lt)
      have B2 := box (B1.out.trans (hb2.mono B1.out.size))
      clear hb2
      go_wp2_with fail
      refine (tNorm_is H1S HP).mono ?_; rintro e w3 ⟨rfl, hb3⟩; unfold optV
      have R3 := box (R2.out.below hb3 R2.out.lt)
      have B3 := box (B2.out.trans (hb3.mono B2.out.size))
      clear hb3
      go_wp2_with fail
      refine (tNorm_is H2S HQ).mono ?_; rintro e w4 ⟨rfl, hb4⟩; unfold optV
      have R4 := box (R3.out.below hb4 R3.out.lt)
      have B4 := box (B3.out.trans (hb4.mono B3.out.size))
      clear hb4
      obtain ⟨⟨r0, r1, r2, r3, r4⟩, ⟨f0, f1, f2, f3, f4⟩⟩ := R4.out
      go_wp2
      (try simp only [Exit.inBlock, Exit.then])
      refine bodyPost_ret (v := uriV (zeroU, 9)) (by rw [results_cell_tmp rfl]; go_simp; rfl) rfl ⟨?_, ?_⟩
      · rw [HE.out, HE2.out]
      · exact below_uset B4.out _ _ _ _ _
    · rcases ao with _ | ⟨x, n⟩
      · have hE2 : partsL a r = (zeroU, 6) := by unfold partsL; rw [hq, hp, hao]; rfl
        have HE2 := box hE2
        clear hE2 hpo hqo hao hm hq hp hlr hcl
        go_enter Try.func10, Try.ntmps10
        go_wp2_with fail
        refine (tSplit_is ht HR).mono ?_; rintro e w1 ⟨rfl, hb1⟩; unfold splV
        have R1 := box (R0.out.below hb1 R0.out.lt)
        have B1 := box (B0.out.trans (hb1.mono B0.out.size))
        clear hb1
        go_wp2_with fail
        refine (Cut_any (bs r) 63 _ HRM.out).mono ?_; rintro e w2 ⟨rfl, hb2⟩; rw [HC1.out _ rfl]
        have R2 := box (R1.out.below hb2 R1.out.lt)
        have B2 := box (B1.out.trans (hb2.mono B1.out.size))
        clear hb2
        go_wp2_with fail
        refine (tNorm_is H1S HP).mono ?_; rintro e w3 ⟨rfl, hb3⟩; unfold optV
        have R3 := box (R2.out.below hb3 R2.out.lt)
        have B3 := box (B2.out.trans (hb3.mono B2.out.size))
        clear hb3
        go_wp2_with fail
        refine (tNorm_is H2S HQ).mono ?_; rintro e w4 ⟨rfl, hb4⟩; unfold optV
        have R4 := box (R3.out.below hb4 R3.out.lt)
        have B4 := box (B3.out.trans (hb4.mono B3.out.size))
        clear hb4
        go_wp2_with fail
        refine (tAuth_is HAS HA).mono ?_; rintro e w5 ⟨rfl, hb5⟩; unfold authV
        have R5 := box (R4.out.below hb5 R4.out.lt)
        have B5 := box (B4.out.trans (hb5.mono B4.out.size))
        clear hb5
        obtain ⟨⟨r0, r1, r2, r3, r4⟩, ⟨f0, f1, f2, f3, f4⟩⟩ := R5.out
        go_wp2
        (try simp only [Exit.inBlock, Exit.then])
        refine bodyPost_ret (v := uriV (zeroU, 6)) (by rw [results_cell_tmp rfl]; go_simp; rfl) rfl ⟨?_, ?_⟩
        · rw [HE.out, HE2.out]
        · exact below_uset B5.out _ _ _ _ _
      · have hE2 : partsL a r = ((x, n, segL (slashL p), q, m), 0) := by unfold partsL; rw [hq, hp, hao, hm]; rfl
        have HE2 := box hE2
        have hpl := norm_len _ _ _ (Nat.le_refl _) hpo
        obtain ⟨y, hy⟩ : ∃ y, (⟨p.toArray⟩ : ByteArray) = y := ⟨_, rfl⟩
        have HOY : Box (optV (some p) = .tuple #[.string y, .bool true]) := box (by rw [← hy]; rfl)
        have hyl : y.data.toList = p := by rw [← hy]
        have HYS : Box (y.size ≤ 50000) := box (by have e := bs_size p; have e2 : bs p = y := hy; rw [e2] at e; omega)
        rcases he : y.toList.isEmpty with _ | _
        · have HSG : Box (segL y.data.toList = segL (slashL p)) := box (by
            rw [hyl]; unfold slashL; rw [if_neg]
            intro e; rw [toList_data, hyl, e] at he; cases he)
          clear hE2 hpo hqo hao hm hq hp hlr hcl hy hyl hpl
          go_enter Try.func10, Try.ntmps10
          go_wp2_with fail
          refine (tSplit_is ht HR).mono ?_; rintro e w1 ⟨rfl, hb1⟩; unfold splV
          have R1 := box (R0.out.below hb1 R0.out.lt)
          have B1 := box (B0.out.trans (hb1.mono B0.out.size))
          clear hb1
          go_wp2_with fail
          refine (Cut_any (bs r) 63 _ HRM.out).mono ?_; rintro e w2 ⟨rfl, hb2⟩; rw [HC1.out _ rfl]
          have R2 := box (R1.out.below hb2 R1.out.lt)
          have B2 := box (B1.out.trans (hb2.mono B1.out.size))
          clear hb2
          go_wp2_with fail
          refine (tNorm_is H1S HP).mono ?_; rintro e w3 ⟨rfl, hb3⟩; rw [HOY.out]
          have R3 := box (R2.out.below hb3 R2.out.lt)
          have B3 := box (B2.out.trans (hb3.mono B2.out.size))
          clear hb3
          go_wp2_with fail
          refine (tNorm_is H2S HQ).mono ?_; rintro e w4 ⟨rfl, hb4⟩; unfold optV
          have R4 := box (R3.out.below hb4 R3.out.lt)
          have B4 := box (B3.out.trans (hb4.mono B3.out.size))
          clear hb4
          go_wp2_with fail
          refine (tAuth_is HAS HA).mono ?_; rintro e w5 ⟨rfl, hb5⟩; unfold authV
          have R5 := box (R4.out.below hb5 R4.out.lt)
          have B5 := box (B4.out.trans (hb5.mono B4.out.size))
          clear hb5
          go_wp2_with fail
          refine (tSeg_is HYS HSG).mono ?_; rintro e w6 ⟨rfl, hb6⟩
          have R6 := box (R5.out.below hb6 R5.out.lt)
          have B6 := box (B5.out.trans (hb6.mono B5.out.size))
          clear hb6
          obtain ⟨⟨r0, r1, r2, r3, r4⟩, ⟨f0, f1, f2, f3, f4⟩⟩ := R6.out
          go_wp2
          (try simp only [Exit.inBlock, Exit.then])
          refine bodyPost_ret (v := uriV ((x, n, segL (slashL p), q, m), 0)) (by rw [results_cell_tmp rfl]; go_simp; rfl) rfl ⟨?_, ?_⟩
          · rw [HE.out, HE2.out]
          · exact below_uset B6.out _ _ _ _ _
        · have HSG : Box (segL (⟨#[47]⟩ : ByteArray).data.toList = segL (slashL p)) := box (by
            have e : p = [] := by rw [toList_data, hyl] at he; exact List.isEmpty_iff.mp he
            rw [e]; rfl)
          have H47 : Box ((⟨#[47]⟩ : ByteArray).size ≤ 50000) := box (by decide)
          clear hE2 hpo hqo hao hm hq hp hlr hcl hy hyl hpl
          go_enter Try.func10, Try.ntmps10
          go_wp2_with fail
          refine (tSplit_is ht HR).mono ?_; rintro e w1 ⟨rfl, hb1⟩; unfold splV
          have R1 := box (R0.out.below hb1 R0.out.lt)
          have B1 := box (B0.out.trans (hb1.mono B0.out.size))
          clear hb1
          go_wp2_with fail
          refine (Cut_any (bs r) 63 _ HRM.out).mono ?_; rintro e w2 ⟨rfl, hb2⟩; rw [HC1.out _ rfl]
          have R2 := box (R1.out.below hb2 R1.out.lt)
          have B2 := box (B1.out.trans (hb2.mono B1.out.size))
          clear hb2
          go_wp2_with fail
          refine (tNorm_is H1S HP).mono ?_; rintro e w3 ⟨rfl, hb3⟩; rw [HOY.out]
          have R3 := box (R2.out.below hb3 R2.out.lt)
          have B3 := box (B2.out.trans (hb3.mono B2.out.size))
          clear hb3
          go_wp2_with fail
          refine (tNorm_is H2S HQ).mono ?_; rintro e w4 ⟨rfl, hb4⟩; unfold optV
          have R4 := box (R3.out.below hb4 R3.out.lt)
          have B4 := box (B3.out.trans (hb4.mono B3.out.size))
          clear hb4
          go_wp2_with fail
          refine (tAuth_is HAS HA).mono ?_; rintro e w5 ⟨rfl, hb5⟩; unfold authV
          have R5 := box (R4.out.below hb5 R4.out.lt)
          have B5 := box (B4.out.trans (hb5.mono B4.out.size))
          clear hb5
          go_wp2_with fail
          refine (tSeg_is H47 HSG).mono ?_; rintro e w6 ⟨rfl, hb6⟩
          have R6 := box (R5.out.below hb6 R5.out.lt)
          have B6 := box (B5.out.trans (hb6.mono B5.out.size))
          clear hb6
          obtain ⟨⟨r0, r1, r2, r3, r4⟩, ⟨f0, f1, f2, f3, f4⟩⟩ := R6.out
          go_wp2
          (try simp only [Exit.inBlock, Exit.then])
          refine bodyPost_ret (v := uriV ((x, n, segL (slashL p), q, m), 0)) (by rw [results_cell_tmp rfl]; go_simp; rfl) rfl ⟨?_, ?_⟩
          · rw [HE.out, HE2.out]
          · exact below_uset B6.out _ _ _ _ _

theorem tParse_any (t h : ByteArray) (w : World) (ht : t.size ≤ 49000) (hh : h.size ≤ 49000) :
    Calls Try.prog 10 #[.string t, .string h] w fun e w' => e = .returned (uriV (uriL t.data.toList h.data.toList)) ∧ Below w.heap.size w w' := by
  rcases hr : restL t.data.toList h.data.toList with _ | ⟨a, r⟩
  · exact tParse_none t h w (by omega) (box hr) (box (by unfold uriL; rw [hr]))
  · have hl := rest_le hr
    have z1 : t.data.toList.length = t.size := by simp
    have z2 : h.data.toList.length = h.size := by simp
    exact tParse_some t h w (by omega) a r (box hr) (box (by rw [bs_size]; omega)) (by omega) (box (by unfold uriL; rw [hr]))

end Go.Proofs.Ytilodlmjamaiiaa.Asc
