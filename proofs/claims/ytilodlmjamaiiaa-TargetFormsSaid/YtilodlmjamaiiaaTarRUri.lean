/- The contract of the reference's ParseURI. -/
import Derived.Test.YtilodlmjamaiiaaTarNorm
import Derived.Test.YtilodlmjamaiiaaTarRSeg
import Derived.Test.YtilodlmjamaiiaaTarRKey
import Derived.Laws.ResultCell
set_option linter.unusedVariables false
set_option linter.unusedSimpArgs false
namespace Go.Proofs.Ytilodlmjamaiiaa.Asc
open Go.RowKit

theorem norm_len : ∀ (k : Nat) (l m : List UInt8), l.length ≤ k → normL l = some m → m.length ≤ l.length
  | _, [], m, _, h => by cases h; simp
  | 0, c :: r, m, hn, h => by simp at hn
  | k + 1, c :: r, m, hn, h => by
    simp only [List.length_cons] at hn
    rcases hc : okB c with _ | _
    · rw [norm_bad hc] at h; cases h
    · by_cases hc37 : c = 37
      · subst hc37
        match r, h, hn with
        | [], h, _ => rw [norm_short1] at h; cases h
        | [a], h, _ => rw [norm_short2] at h; cases h
        | a :: b :: r2, h, hn =>
          rcases ha : (hexB a && hexB b) with _ | _
          · rw [norm_notrip ha] at h; cases h
          · simp only [Bool.and_eq_true] at ha
            rw [norm_trip ha.1 ha.2] at h
            obtain ⟨m2, h2, rfl⟩ := Option.map_eq_some_iff.mp h
            have := norm_len k r2 m2 (by simp only [List.length_cons] at hn; omega) h2
            have ht : (tripL (tripN a b)).length ≤ 3 := by unfold tripL; split <;> simp
            simp; omega
      · rw [norm_plain hc hc37] at h
        obtain ⟨m2, h2, rfl⟩ := Option.map_eq_some_iff.mp h
        have := norm_len k r m2 (by omega) h2
        simp; omega
section
variable {g : Nat} {h p q : ByteArray} {n : Int} {b : Bool} {w : World}
theorem UF.other (f : UF g h n p q b w) {g2 i : Nat} (hne : g ≠ g2) (v : Value) : UF g h n p q b (w.setCell ⟨g2, i, none⟩ v) := by
  have hb : ∀ j, (w.setCell ⟨g2, i, none⟩ v).cell? ⟨g, j, none⟩ = w.cell? ⟨g, j, none⟩ := fun j => World.cell?_of_block (w := w) (Below.heap_setCell w ⟨g2, i, none⟩ v g (by simpa using hne))
  obtain ⟨⟨h0, h1, h2, h3, h4⟩, f0⟩ := f
  exact ⟨⟨(hb 0).trans h0, (hb 1).trans h1, (hb 2).trans h2, (hb 3).trans h3, (hb 4).trans h4⟩, by simpa only [World.frozen?_setCell] using f0⟩
theorem UF.setp (f : UF g h n p q b w) (p' : ByteArray) : UF g h n p' q b (w.setCell ⟨g, 2, none⟩ (.string p')) := by
  obtain ⟨⟨h0, h1, h2, h3, h4⟩, f0⟩ := f
  refine ⟨⟨?_, ?_, ?_, ?_, ?_⟩, by simpa only [World.frozen?_setCell] using f0⟩
  all_goals first
    | (rw [World.cell?_setCell_same (h := h2)])
    | exact (World.cell?_setCell_other _ _ _ _ (by simp)).trans (by assumption)
end
theorem UF.setq {g : Nat} {h p q : ByteArray} {n : Int} {b : Bool} {w : World} (f : UF g h n p q b w) (q' : ByteArray) : UF g h n p q' b (w.setCell ⟨g, 3, none⟩ (.string q')) := by
  obtain ⟨⟨h0, h1, h2, h3, h4⟩, f0⟩ := f
  refine ⟨⟨?_, ?_, ?_, ?_, ?_⟩, by simpa only [World.frozen?_setCell] using f0⟩
  all_goals first
    | (rw [World.cell?_setCell_same (h := h3)])
    | exact (World.cell?_setCell_other _ _ _ _ (by simp)).trans (by assumption)
theorem UF.setb {g : Nat} {h p q : ByteArray} {n : Int} {b : Bool} {w : World} (f : UF g h n p q b w) (b' : Bool) : UF g h n p q b' (w.setCell ⟨g, 4, none⟩ (.bool b')) := by
  obtain ⟨⟨h0, h1, h2, h3, h4⟩, f0⟩ := f
  refine ⟨⟨?_, ?_, ?_, ?_, ?_⟩, by simpa only [World.frozen?_setCell] using f0⟩
  all_goals first
    | (rw [World.cell?_setCell_same (h := h4)])
    | exact (World.cell?_setCell_other _ _ _ _ (by simp)).trans (by assumption)
theorem below_uset {w w1 : World} (h : Below w.heap.size w w1) (v0 v1 v2 v3 v4 : Value) : Below w.heap.size w (((((w1.setCell ⟨w.heap.size, 0, none⟩ v0).setCell ⟨w.heap.size, 1, none⟩ v1).setCell ⟨w.heap.size, 2, none⟩ v2).setCell ⟨w.heap.size, 3, none⟩ v3).setCell ⟨w.heap.size, 4, none⟩ v4) :=
  ((((h.setCell (p := ⟨w.heap.size, 0, none⟩) (Nat.le_refl _) v0).setCell (p := ⟨w.heap.size, 1, none⟩) (Nat.le_refl _) v1).setCell (p := ⟨w.heap.size, 2, none⟩) (Nat.le_refl _) v2).setCell (p := ⟨w.heap.size, 3, none⟩) (Nat.le_refl _) v3).setCell (p := ⟨w.heap.size, 4, none⟩) (Nat.le_refl _) v4
def uriV (u : U × Int) : Value := .tuple #[uV (bs u.1.1) u.1.2.1 (bs u.1.2.2.1) (bs u.1.2.2.2.1) u.1.2.2.2.2, .int .i64 u.2]
theorem ret_uri {a b : U × Int} (h : a = b) : Ending.returned (uriV a) = .returned (uriV b) := by rw [h]

theorem rURI_form (t h : ByteArray) (w : World) (ht : t.size ≤ 60000) (H0 : (t.toList.isEmpty = true) ∨ ∃ h : 0 < t.size, ((t[0].toNat : Int) == 47) = false ∧ t.toList.isEmpty = false) (HS : Box (schemeB t.data.toList = false)) (HE : Box (restL t.data.toList h.data.toList = none)) :
    Calls Try.prog 11 #[.string t, .string h] w fun e w' => e = .returned (uriV (uriL t.data.toList h.data.toList)) ∧ Below w.heap.size w w' := by
  rcases H0 with h0 | ⟨h0, h1, h2⟩
  all_goals
    go_enter Try.func11, Try.ntmps11
    go_wp2_with fail
    refine (rscheme_any t _ ht).mono ?_; rintro e w1 ⟨rfl, hb1⟩; rw [HS.out]
    have r := (UF.new ByteArray.empty 0 ByteArray.empty ByteArray.empty false w 23).below hb1 (by simp)
    have b1 := (below_alloc1 w _).trans (hb1.mono (below_alloc1 w _).size)
    obtain ⟨⟨r0, r1, r2, r3, r4⟩, ⟨f0, f1, f2, f3, f4⟩⟩ := r
    clear hb1
    go_wp2
    (try simp only [Exit.inBlock, Exit.then])
    refine bodyPost_ret (v := uriV (zeroU, 9)) (by rw [results_cell_tmp rfl]; go_simp; rfl) rfl ⟨?_, ?_⟩
    · exact ret_uri (by unfold uriL; rw [HE.out])
    · exact below_uset b1 _ _ _ _ _

theorem UF.new1 (w : World) (h : ByteArray) (n : Int) (p q : ByteArray) (b : Bool) (o : Obj) (t : TypeId) : UF (w.heap.size + 1) h n p q b ((w.alloc o).alloc (.cells #[.string h, .int .i64 n, .string p, .string q, .bool b] t)) := by
  have f := UF.new h n p q b (w.alloc o) t
  rw [show (w.alloc o).heap.size = w.heap.size + 1 from by simp] at f
  exact f
theorem below_ug {w w1 : World} {g : Nat} (h : Below w.heap.size w w1) (hg : w.heap.size ≤ g) (v0 v1 : Value) : Below w.heap.size w ((w1.setCell ⟨g, 0, none⟩ v0).setCell ⟨g, 1, none⟩ v1) :=
  (h.setCell (p := ⟨g, 0, none⟩) hg v0).setCell (p := ⟨g, 1, none⟩) hg v1
/-- where the authority ends -/
theorem end_more {p : UInt8 → Bool} {m : List UInt8} {j : Nat} (h : j ≤ (m.takeWhile p).length) (hj : j < m.length) (hp : p m[j] = true) : j + 1 ≤ (m.takeWhile p).length := by
  induction m generalizing j with
  | nil => simp at hj
  | cons c m ih =>
    rw [List.takeWhile_cons] at h ⊢
    cases j with
    | zero => simp at hp; rw [hp]; simp
    | succ j =>
      split
      · rename_i q
        rw [if_pos q] at h
        simp at h hj hp ⊢
        exact ih h hj hp
      · rename_i q
        rw [if_neg q] at h; simp at h
theorem end_stop {p : UInt8 → Bool} {m : List UInt8} {j : Nat} (h : j ≤ (m.takeWhile p).length) (hj : j < m.length) (hp : p m[j] = false) : j = (m.takeWhile p).length := by
  rcases Nat.lt_or_ge j (m.takeWhile p).length with q | q
  · have h1 : (m.takeWhile p)[j]'q = m[j] := by
      have := List.takeWhile_prefix p (l := m)
      exact (List.IsPrefix.getElem this q)
    have h2 := List.all_takeWhile (l := m) (p := p)
    have h3 := List.all_eq_true.mp h2 _ (List.getElem_mem q)
    rw [h1, hp] at h3; cases h3
  · omega
set_option maxRecDepth 100000 in
set_option maxHeartbeats 2000000 in
theorem rURI_slash (t h : ByteArray) (w : World) (ht : t.size ≤ 50000) (hh : h.size ≤ 50000) (h0 : 0 < t.size) (he : t.toList.isEmpty = false) (h47 : ((t[0].toNat : Int) == 47) = true) (HP : Box (uriL t.data.toList h.data.toList = partsL h.data.toList t.data.toList)) :
    Calls Try.prog 11 #[.string t, .string h] w fun e w' => e = .returned (uriV (uriL t.data.toList h.data.toList)) ∧ Below w.heap.size w w' := by
  have RS : Box (t.size ≤ maxLen) := box (by unfold maxLen; omega)
  go_enter Try.func11, Try.ntmps11
  go_wp2_with fail
  refine (rIndex_any t 63 63 0 _ RS.out (Nat.zero_le _) rfl).mono ?_; rintro e wi ⟨rfl, rfl⟩
  have UX := box (UF.new1 w ByteArray.empty 0 ByteArray.empty ByteArray.empty false (.cells #[.string ByteArray.empty, .int .i64 0, .string ByteArray.empty, .string ByteArray.empty, .bool false] 23) 23)
  have RX := box ((UF.new ByteArray.empty 0 ByteArray.empty ByteArray.empty false w 23).below (below_alloc1 _ (.cells #[.string ByteArray.empty, .int .i64 0, .string ByteArray.empty, .string ByteArray.empty, .bool false] 23)) (by simp))
  have BX := box ((below_alloc1 w (.cells #[.string ByteArray.empty, .int .i64 0, .string ByteArray.empty, .string ByteArray.empty, .bool false] 23)).alloc (below_alloc1 w _).size (.cells #[.string ByteArray.empty, .int .i64 0, .string ByteArray.empty, .string ByteArray.empty, .bool false] 23))
  by_cases hi : idxF t.data.toList 63 0 < 0
  · have q0 := idxF_none hi
    rw [List.drop_zero] at q0
    obtain ⟨k1, k2, k3⟩ := cut_no q0
    have HI : Box (idxF t.data.toList 63 0 = -1) := box (by unfold idxF; rw [List.drop_zero, if_pos q0])
    have HQ : Box (queryL t.data.toList = some []) := box (by unfold queryL; rw [if_neg (by rw [k3]; simp)])
    have HRP : Box (cut1 63 t.data.toList = t.data.toList) := box k1
    have HC : Box (cutB 63 t.data.toList = false) := box k3
    clear hi q0 k1 k2 k3
    rw [HI.out]
    go_wp2_with fail
    refine (rNormalize_any t _ (by omega)).mono ?_; rintro e w3 ⟨rfl, hb3⟩
    have U3 := box (UX.out.below hb3 UX.out.lt)
    have R3 := box (RX.out.below hb3 RX.out.lt)
    have B3 := box (BX.out.trans (hb3.mono BX.out.size))
    have hg3 := U3.out.lt
    clear hb3
    rcases hp : normL t.data.toList with _ | p
    · have HU : Box (uriL t.data.toList h.data.toList = (zeroU, 9)) := box (by rw [HP.out]; unfold partsL pathL; rw [HQ.out, HRP.out, hp]; rfl)
      clear hp
      unfold optV
      obtain ⟨⟨r0, r1, r2, r3, r4⟩, ⟨f0, f1, f2, f3, f4⟩⟩ := R3.out
      go_wp2
      (try simp only [Exit.inBlock, Exit.then])
      refine bodyPost_ret (v := uriV (zeroU, 9)) (by rw [results_cell_tmp rfl]; go_simp; rfl) rfl ⟨?_, ?_⟩
      · exact ret_uri (by rw [HU.out])
      · exact below_uset B3.out _ _ _ _ _
    · have hpl := norm_len _ _ _ (Nat.le_refl _) hp
      have HPL : Box ((bs (slashL p)).size ≤ 60000) := box (by
        have hz : t.data.toList.length = t.size := by simp
        rw [bs_size]; unfold slashL; split
        · simp
        · omega)
      have HPA : Box (pathL t.data.toList = some (segL (slashL p))) := box (by unfold pathL; rw [HRP.out, hp]; rfl)
      clear hp hpl
      unfold optV
      obtain ⟨sg, hsg⟩ : ∃ sg, bs (segL (slashL p)) = sg := ⟨_, rfl⟩
      have SGQ := box hsg
      clear hsg
      obtain ⟨⟨u0, u1, u2, u3, u4⟩, ⟨v0, v1, v2, v3, v4⟩⟩ := U3.out
      go_wp2_with fail
      · have qe : p.isEmpty = true := by assumption
        rw [show (⟨#[47]⟩ : ByteArray) = bs (slashL p) from by rw [List.isEmpty_iff.mp qe]; rfl]
        clear qe
        refine (rSegments_any (bs (slashL p)) _ HPL.out).mono ?_; rintro e w4 ⟨rfl, hb4⟩; rw [bs_toList, SGQ.out]
        have U4 := box (U3.out.below hb4 U3.out.lt)
        have R4 := box (R3.out.below hb4 R3.out.lt)
        have B4 := box (B3.out.trans (hb4.mono B3.out.size))
        clear hb4 u0 u1 u2 u3 u4 v0 v1 v2 v3 v4
        obtain ⟨⟨u0, u1, u2, u3, u4⟩, ⟨v0, v1, v2, v3, v4⟩⟩ := U4.out
        go_wp2_with fail
        refine (rAuthority_any h _ (by omega)).mono ?_; rintro e w5 ⟨rfl, hb5⟩
        clear u0 u1 u2 u3 u4 v0 v1 v2 v3 v4
        have U5 := box ((U4.out.setp sg).below hb5 (U4.out.setp sg).lt)
        have R5 := box ((R4.out.other (g2 := w.heap.size + 1) (i := 2) (by simp) (.string sg)).below hb5 (R4.out.other (g2 := w.heap.size + 1) (i := 2) (by simp) (.string sg)).lt)
        have B4s : Below w.heap.size w (w4.setCell ⟨w.heap.size + 1, 2, none⟩ (.string sg)) := B4.out.setCell (p := ⟨w.heap.size + 1, 2, none⟩) (Nat.le_succ _) _
        have B5 := box (B4s.trans (hb5.mono B4s.size))
        clear hb5 B4s
        rcases ha : authL h.data.toList with _ | ⟨x, n⟩
        · have HU : Box (uriL t.data.toList h.data.toList = (zeroU, 6)) := box (by rw [HP.out]; unfold partsL; rw [HQ.out, HPA.out, ha])
          clear ha
          unfold authV
          obtain ⟨⟨r0, r1, r2, r3, r4⟩, ⟨f0, f1, f2, f3, f4⟩⟩ := R5.out
          go_wp2
          (try simp only [Exit.inBlock, Exit.then])
          refine bodyPost_ret (v := uriV (zeroU, 6)) (by rw [results_cell_tmp rfl]; go_simp; rfl) rfl ⟨?_, ?_⟩
          · exact ret_uri (by rw [HU.out])
          · exact below_uset B5.out _ _ _ _ _
        · have HU : Box (uriL t.data.toList h.data.toList = ((x, n, segL (slashL p), [], false), 0)) := box (by rw [HP.out]; unfold partsL; rw [HQ.out, HPA.out, ha, HC.out])
          clear ha
          unfold authV
          obtain ⟨⟨r0, r1, r2, r3, r4⟩, ⟨f0, f1, f2, f3, f4⟩⟩ := R5.out
          obtain ⟨⟨u0, u1, u2, u3, u4⟩, ⟨v0, v1, v2, v3, v4⟩⟩ := U5.out
          go_wp2
          (try simp only [Exit.inBlock, Exit.then])
          refine bodyPost_ret (v := .tuple #[uV (bs x) n sg ByteArray.empty false, .int .i64 0]) (by rw [results_cell_tmp rfl]; go_simp; rfl) rfl ⟨?_, ?_⟩
          · rw [HU.out]; unfold uriV; rw [SGQ.out]; (try rfl)
          · exact below_uset (below_ug B5.out (Nat.le_succ _) _ _) _ _ _ _ _
      · have qe : p.isEmpty = false := by assumption
        rw [show (⟨p.toArray⟩ : ByteArray) = bs (slashL p) from by unfold slashL; rw [if_neg (by intro e; rw [e] at qe; cases qe)]; rfl]
        clear qe
        refine (rSegments_any (bs (slashL p)) _ HPL.out).mono ?_; rintro e w4 ⟨rfl, hb4⟩; rw [bs_toList, SGQ.out]
        have U4 := box (U3.out.below hb4 U3.out.lt)
        have R4 := box (R3.out.below hb4 R3.out.lt)
        have B4 := box (B3.out.trans (hb4.mono B3.out.size))
        clear hb4 u0 u1 u2 u3 u4 v0 v1 v2 v3 v4
        obtain ⟨⟨u0, u1, u2, u3, u4⟩, ⟨v0, v1, v2, v3, v4⟩⟩ := U4.out
        go_wp2_with fail
        refine (rAuthority_any h _ (by omega)).mono ?_; rintro e w5 ⟨rfl, hb5⟩
        clear u0 u1 u2 u3 u4 v0 v1 v2 v3 v4
        have U5 := box ((U4.out.setp sg).below hb5 (U4.out.setp sg).lt)
        have R5 := box ((R4.out.other (g2 := w.heap.size + 1) (i := 2) (by simp) (.string sg)).below hb5 (R4.out.other (g2 := w.heap.size + 1) (i := 2) (by simp) (.string sg)).lt)
        have B4s : Below w.heap.size w (w4.setCell ⟨w.heap.size + 1, 2, none⟩ (.string sg)) := B4.out.setCell (p := ⟨w.heap.size + 1, 2, none⟩) (Nat.le_succ _) _
        have B5 := box (B4s.trans (hb5.mono B4s.size))
        clear hb5 B4s
        rcases ha : authL h.data.toList with _ | ⟨x, n⟩
        · have HU : Box (uriL t.data.toList h.data.toList = (zeroU, 6)) := box (by rw [HP.out]; unfold partsL; rw [HQ.out, HPA.out, ha])
          clear ha
          unfold authV
          obtain ⟨⟨r0, r1, r2, r3, r4⟩, ⟨f0, f1, f2, f3, f4⟩⟩ := R5.out
          go_wp2
          (try simp only [Exit.inBlock, Exit.then])
          refine bodyPost_ret (v := uriV (zeroU, 6)) (by rw [results_cell_tmp rfl]; go_simp; rfl) rfl ⟨?_, ?_⟩
          · exact ret_uri (by rw [HU.out])
          · exact below_uset B5.out _ _ _ _ _
        · have HU : Box (uriL t.data.toList h.data.toList = ((x, n, segL (slashL p), [], false), 0)) := box (by rw [HP.out]; unfold partsL; rw [HQ.out, HPA.out, ha, HC.out])
          clear ha
          unfold authV
          obtain ⟨⟨r0, r1, r2, r3, r4⟩, ⟨f0, f1, f2, f3, f4⟩⟩ := R5.out
          obtain ⟨⟨u0, u1, u2, u3, u4⟩, ⟨v0, v1, v2, v3, v4⟩⟩ := U5.out
          go_wp2
          (try simp only [Exit.inBlock, Exit.then])
          refine bodyPost_ret (v := .tuple #[uV (bs x) n sg ByteArray.empty false, .int .i64 0]) (by rw [results_cell_tmp rfl]; go_simp; rfl) rfl ⟨?_, ?_⟩
          · rw [HU.out]; unfold uriV; rw [SGQ.out]; (try rfl)
          · exact below_uset (below_ug B5.out (Nat.le_succ _) _ _) _ _ _ _ _
  · obtain ⟨o, g1, g2, g3⟩ := idxF_some hi
    rw [List.drop_zero] at g1
    simp only [Nat.zero_add] at g2 g3
    have hz2 : t.data.toList.length = t.size := by simp
    rw [hz2] at g3
    obtain ⟨_, k1, k2, k3⟩ := cut_at g1
    have HI := box g2
    obtain ⟨rp, hrp⟩ : ∃ rp, t.extract 0 o = rp := ⟨_, rfl⟩
    obtain ⟨rq, hrq⟩ : ∃ rq, t.extract (o + 1) t.size = rq := ⟨_, rfl⟩
    have HX := box hrp
    have HY := box hrq
    have hrps : rp.size ≤ 50000 := by rw [← hrp, ByteArray.size_extract]; omega
    have hrqs : rq.size ≤ 50000 := by rw [← hrq, ByteArray.size_extract]; omega
    have HRP : Box (cut1 63 t.data.toList = rp.data.toList) := box (by rw [← hrp, ext_bs, List.drop_zero, k1]; rfl)
    have HRQ : Box (cut2 63 t.data.toList = rq.data.toList) := box (by rw [← hrq, ext_bs, List.take_of_length_le (by simp), k2]; rfl)
    have HC : Box (cutB 63 t.data.toList = true) := box k3
    have l1 : (o : Int) ≤ (t.size : Int) := by omega
    have l2 : (o : Int) + 1 ≤ (t.size : Int) := by omega
    have l3 : (0 : Int) ≤ (o : Int) + 1 := by omega
    clear hi g1 g2 k1 k2 k3 hrp hrq hz2
    rw [HI.out]
    go_wp2_with fail
    rw [HY.out]
    refine (rNormalize_any rq _ (by omega)).mono ?_; rintro e w2 ⟨rfl, hb2⟩
    have U2 := box (UX.out.below hb2 UX.out.lt)
    have R2 := box (RX.out.below hb2 RX.out.lt)
    have B2 := box (BX.out.trans (hb2.mono BX.out.size))
    clear hb2 UX RX BX
    rcases hq : normL rq.data.toList with _ | qq
    · have HU : Box (uriL t.data.toList h.data.toList = (zeroU, 9)) := box (by rw [HP.out]; unfold partsL queryL; rw [if_pos HC.out, HRQ.out, hq])
      clear hq
      unfold optV
      obtain ⟨⟨r0, r1, r2, r3, r4⟩, ⟨f0, f1, f2, f3, f4⟩⟩ := R2.out
      go_wp2
      (try simp only [Exit.inBlock, Exit.then])
      refine bodyPost_ret (v := uriV (zeroU, 9)) (by rw [results_cell_tmp rfl]; go_simp; rfl) rfl ⟨?_, ?_⟩
      · exact ret_uri (by rw [HU.out])
      · exact below_uset B2.out _ _ _ _ _
    · have HQ : Box (queryL t.data.toList = some qq) := box (by unfold queryL; rw [if_pos HC.out, HRQ.out, hq])
      clear hq
      unfold optV
      obtain ⟨⟨u0, u1, u2, u3, u4⟩, ⟨v0, v1, v2, v3, v4⟩⟩ := U2.out
      go_wp2_with fail
      go_region_held3 (fun w' => True) (first | trivial) (fail)
      rw [HX.out]
      have UX0 := (U2.out.setq (bs qq)).setb true
      have RX0 := (R2.out.other (g2 := w.heap.size + 1) (i := 3) (by simp) (.string (bs qq))).other (g2 := w.heap.size + 1) (i := 4) (by simp) (.bool true)
      have BX0 : Below w.heap.size w ((w2.setCell ⟨w.heap.size + 1, 3, none⟩ (.string (bs qq))).setCell ⟨w.heap.size + 1, 4, none⟩ (.bool true)) := (B2.out.setCell (p := ⟨w.heap.size + 1, 3, none⟩) (Nat.le_succ _) _).setCell (p := ⟨w.heap.size + 1, 4, none⟩) (Nat.le_succ _) _
      have UX := box (UX0.below (Below.refl _ _).drew UX0.lt)
      have RX := box (RX0.below (Below.refl _ _).drew RX0.lt)
      have BX := box BX0.drew
      clear UX0 RX0 BX0 u0 u1 u2 u3 u4 v0 v1 v2 v3 v4
      go_wp2_with fail
      refine (rNormalize_any rp _ (by omega)).mono ?_; rintro e w3 ⟨rfl, hb3⟩
      have U3 := box (UX.out.below hb3 UX.out.lt)
      have R3 := box (RX.out.below hb3 RX.out.lt)
      have B3 := box (BX.out.trans (hb3.mono BX.out.size))
      have hg3 := U3.out.lt
      clear hb3
      rcases hp : normL rp.data.toList with _ | p
      · have HU : Box (uriL t.data.toList h.data.toList = (zeroU, 9)) := box (by rw [HP.out]; unfold partsL pathL; rw [HQ.out, HRP.out, hp]; rfl)
        clear hp
        unfold optV
        obtain ⟨⟨r0, r1, r2, r3, r4⟩, ⟨f0, f1, f2, f3, f4⟩⟩ := R3.out
        go_wp2
        (try simp only [Exit.inBlock, Exit.then])
        refine bodyPost_ret (v := uriV (zeroU, 9)) (by rw [results_cell_tmp rfl]; go_simp; rfl) rfl ⟨?_, ?_⟩
        · exact ret_uri (by rw [HU.out])
        · exact below_uset B3.out _ _ _ _ _
      · have hpl := norm_len _ _ _ (Nat.le_refl _) hp
        have HPL : Box ((bs (slashL p)).size ≤ 60000) := box (by
          have hz : rp.data.toList.length = rp.size := by simp
          rw [bs_size]; unfold slashL; split
          · simp
          · omega)
        have HPA : Box (pathL t.data.toList = some (segL (slashL p))) := box (by unfold pathL; rw [HRP.out, hp]; rfl)
        clear hp hpl
        unfold optV
        obtain ⟨sg, hsg⟩ : ∃ sg, bs (segL (slashL p)) = sg := ⟨_, rfl⟩
        have SGQ := box hsg
        clear hsg
        obtain ⟨⟨u0, u1, u2, u3, u4⟩, ⟨v0, v1, v2, v3, v4⟩⟩ := U3.out
        go_wp2_with fail
        · have qe : p.isEmpty = true := by assumption
          rw [show (⟨#[47]⟩ : ByteArray) = bs (slashL p) from by rw [List.isEmpty_iff.mp qe]; rfl]
          clear qe
          refine (rSegments_any (bs (slashL p)) _ HPL.out).mono ?_; rintro e w4 ⟨rfl, hb4⟩; rw [bs_toList, SGQ.out]
          have U4 := box (U3.out.below hb4 U3.out.lt)
          have R4 := box (R3.out.below hb4 R3.out.lt)
          have B4 := box (B3.out.trans (hb4.mono B3.out.size))
          clear hb4 u0 u1 u2 u3 u4 v0 v1 v2 v3 v4
          obtain ⟨⟨u0, u1, u2, u3, u4⟩, ⟨v0, v1, v2, v3, v4⟩⟩ := U4.out
          go_wp2_with fail
          refine (rAuthority_any h _ (by omega)).mono ?_; rintro e w5 ⟨rfl, hb5⟩
          clear u0 u1 u2 u3 u4 v0 v1 v2 v3 v4
          have U5 := box ((U4.out.setp sg).below hb5 (U4.out.setp sg).lt)
          have R5 := box ((R4.out.other (g2 := w.heap.size + 1) (i := 2) (by simp) (.string sg)).below hb5 (R4.out.other (g2 := w.heap.size + 1) (i := 2) (by simp) (.string sg)).lt)
          have B4s : Below w.heap.size w (w4.setCell ⟨w.heap.size + 1, 2, none⟩ (.string sg)) := B4.out.setCell (p := ⟨w.heap.size + 1, 2, none⟩) (Nat.le_succ _) _
          have B5 := box (B4s.trans (hb5.mono B4s.size))
          clear hb5 B4s
          rcases ha : authL h.data.toList with _ | ⟨x, n⟩
          · have HU : Box (uriL t.data.toList h.data.toList = (zeroU, 6)) := box (by rw [HP.out]; unfold partsL; rw [HQ.out, HPA.out, ha])
            clear ha
            unfold authV
            obtain ⟨⟨r0, r1, r2, r3, r4⟩, ⟨f0, f1, f2, f3, f4⟩⟩ := R5.out
            go_wp2
            (try simp only [Exit.inBlock, Exit.then])
            refine bodyPost_ret (v := uriV (zeroU, 6)) (by rw [results_cell_tmp rfl]; go_simp; rfl) rfl ⟨?_, ?_⟩
            · exact ret_uri (by rw [HU.out])
            · exact below_uset B5.out _ _ _ _ _
          · have HU : Box (uriL t.data.toList h.data.toList = ((x, n, segL (slashL p), qq, true), 0)) := box (by rw [HP.out]; unfold partsL; rw [HQ.out, HPA.out, ha, HC.out])
            clear ha
            unfold authV
            obtain ⟨⟨r0, r1, r2, r3, r4⟩, ⟨f0, f1, f2, f3, f4⟩⟩ := R5.out
            obtain ⟨⟨u0, u1, u2, u3, u4⟩, ⟨v0, v1, v2, v3, v4⟩⟩ := U5.out
            go_wp2
            (try simp only [Exit.inBlock, Exit.then])
            refine bodyPost_ret (v := .tuple #[uV (bs x) n sg (bs qq) true, .int .i64 0]) (by rw [results_cell_tmp rfl]; go_simp; rfl) rfl ⟨?_, ?_⟩
            · rw [HU.out]; unfold uriV; rw [SGQ.out]; (try rfl)
            · exact below_uset (below_ug B5.out (Nat.le_succ _) _ _) _ _ _ _ _
        · have qe : p.isEmpty = false := by assumption
          rw [show (⟨p.toArray⟩ : ByteArray) = bs (slashL p) from by unfold slashL; rw [if_neg (by intro e; rw [e] at qe; cases qe)]; rfl]
          clear qe
          refine (rSegments_any (bs (slashL p)) _ HPL.out).mono ?_; rintro e w4 ⟨rfl, hb4⟩; rw [bs_toList, SGQ.out]
          have U4 := box (U3.out.below hb4 U3.out.lt)
          have R4 := box (R3.out.below hb4 R3.out.lt)
          have B4 := box (B3.out.trans (hb4.mono B3.out.size))
          clear hb4 u0 u1 u2 u3 u4 v0 v1 v2 v3 v4
          obtain ⟨⟨u0, u1, u2, u3, u4⟩, ⟨v0, v1, v2, v3, v4⟩⟩ := U4.out
          go_wp2_with fail
          refine (rAuthority_any h _ (by omega)).mono ?_; rintro e w5 ⟨rfl, hb5⟩
          clear u0 u1 u2 u3 u4 v0 v1 v2 v3 v4
          have U5 := box ((U4.out.setp sg).below hb5 (U4.out.setp sg).lt)
          have R5 := box ((R4.out.other (g2 := w.heap.size + 1) (i := 2) (by simp) (.string sg)).below hb5 (R4.out.other (g2 := w.heap.size + 1) (i := 2) (by simp) (.string sg)).lt)
          have B4s : Below w.heap.size w (w4.setCell ⟨w.heap.size + 1, 2, none⟩ (.string sg)) := B4.out.setCell (p := ⟨w.heap.size + 1, 2, none⟩) (Nat.le_succ _) _
          have B5 := box (B4s.trans (hb5.mono B4s.size))
          clear hb5 B4s
          rcases ha : authL h.data.toList with _ | ⟨x, n⟩
          · have HU : Box (uriL t.data.toList h.data.toList = (zeroU, 6)) := box (by rw [HP.out]; unfold partsL; rw [HQ.out, HPA.out, ha])
            clear ha
            unfold authV
            obtain ⟨⟨r0, r1, r2, r3, r4⟩, ⟨f0, f1, f2, f3, f4⟩⟩ := R5.out
            go_wp2
            (try simp only [Exit.inBlock, Exit.then])
            refine bodyPost_ret (v := uriV (zeroU, 6)) (by rw [results_cell_tmp rfl]; go_simp; rfl) rfl ⟨?_, ?_⟩
            · exact ret_uri (by rw [HU.out])
            · exact below_uset B5.out _ _ _ _ _
          · have HU : Box (uriL t.data.toList h.data.toList = ((x, n, segL (slashL p), qq, true), 0)) := box (by rw [HP.out]; unfold partsL; rw [HQ.out, HPA.out, ha, HC.out])
            clear ha
            unfold authV
            obtain ⟨⟨r0, r1, r2, r3, r4⟩, ⟨f0, f1, f2, f3, f4⟩⟩ := R5.out
            obtain ⟨⟨u0, u1, u2, u3, u4⟩, ⟨v0, v1, v2, v3, v4⟩⟩ := U5.out
            go_wp2
            (try simp only [Exit.inBlock, Exit.then])
            refine bodyPost_ret (v := .tuple #[uV (bs x) n sg (bs qq) true, .int .i64 0]) (by rw [results_cell_tmp rfl]; go_simp; rfl) rfl ⟨?_, ?_⟩
            · rw [HU.out]; unfold uriV; rw [SGQ.out]; (try rfl)
            · exact below_uset (below_ug B5.out (Nat.le_succ _) _ _) _ _ _ _ _
set_option maxRecDepth 100000 in
set_option maxHeartbeats 4000000 in
theorem rURI_scheme (t h : ByteArray) (w : World) (ht : t.size ≤ 50000) (h0 : 0 < t.size) (he : t.toList.isEmpty = false) (h47 : ((t[0].toNat : Int) == 47) = false) (HS : Box (schemeB t.data.toList = true)) (e : Nat) (he7 : 7 ≤ e) (hes : e ≤ t.size) (heq : e = 7 + ((t.data.toList.drop 7).takeWhile endB).length) (a r : ByteArray) (has : a.size ≤ 50000) (hrs : r.size ≤ 50000) (HA : Box (t.extract 7 e = a)) (HR : Box (t.extract e t.size = r)) (HP : Box (uriL t.data.toList h.data.toList = partsL a.data.toList r.data.toList)) :
    Calls Try.prog 11 #[.string t, .string h] w fun e w' => e = .returned (uriV (uriL t.data.toList h.data.toList)) ∧ Below w.heap.size w w' := by
  have RS : Box (r.size ≤ maxLen) := box (by unfold maxLen; omega)
  go_enter Try.func11, Try.ntmps11
  go_wp2_with fail
  refine (rscheme_any t _ (by omega)).mono ?_; rintro e w1 ⟨rfl, hb1⟩; rw [HS.out]
  have RX1 := box ((UF.new ByteArray.empty 0 ByteArray.empty ByteArray.empty false w 23).below hb1 (by simp))
  have BX1 := box ((below_alloc1 w (.cells #[.string ByteArray.empty, .int .i64 0, .string ByteArray.empty, .string ByteArray.empty, .bool false] 23)).trans (hb1.mono (below_alloc1 w _).size))
  have hG : w.heap.size < w1.heap.size := RX1.out.lt
  have hGle : w.heap.size ≤ w1.heap.size := by omega
  have hGne : w.heap.size ≠ w1.heap.size := by omega
  clear hb1
  go_wp2
  go_loop [7] (fun i => ∃ k : Nat, 7 ≤ k ∧ k ≤ e ∧ i = .int .i64 k) (fun i => e - (intOf i).toNat)
  case atStart => exact ⟨7, Nat.le_refl _, he7, rfl⟩
  case round =>
    obtain ⟨k, hk7, hke, rfl⟩ := hrel
    by_cases hlt : k < t.size
    · have ej : (t.data.toList.drop 7)[k - 7]'(by simp; omega) = t[k] := by
        rw [List.getElem_drop]; show t.data.toList[7 + (k - 7)]'_ = _; congr 1; omega
      rcases hp : endB t[k] with _ | _
      · have hkE : k - 7 = ((t.data.toList.drop 7).takeWhile endB).length := end_stop (by omega) (by simp; omega) (by rw [ej]; exact hp)
        have hke2 : k = e := by omega
        have KE := box hke2
        have ht2 : (t[k].toNat : Int) = 47 ∨ (t[k].toNat : Int) = 63 := by
          unfold endB at hp
          simp only [Bool.and_eq_false_iff, bne_eq_false_iff_eq] at hp
          rcases hp with q | q
          · left; rw [q]; rfl
          · right; rw [q]; rfl
        clear hp ej hkE hke2
        have i0 : (7 : Int) ≤ (k : Int) := by omega
        have i1 : (k : Int) ≤ (t.size : Int) := by omega
        have i2 : (0 : Int) ≤ (k : Int) := by omega
        rcases ht2 with q | q
        · go_wp2
          go_quiet (fail)
          have hEA : t.extract 7 k = a := by rw [KE.out]; exact HA.out
          have hER : t.extract k t.size = r := by rw [KE.out]; exact HR.out
          rw [hEA, hER]
          clear hEA hER
          clear q
          go_wp2_with fail
          refine (rIndex_any r 63 63 0 _ RS.out (Nat.zero_le _) rfl).mono ?_; rintro e2 wi ⟨rfl, rfl⟩
          have bz : Below w1.heap.size w1 ((w1.drewN nq).alloc (.cells #[.string ByteArray.empty, .int .i64 0, .string ByteArray.empty, .string ByteArray.empty, .bool false] 23)) := (below_drewN w1 nq).alloc (Nat.le_refl _) _
          have UX : Box (UF w1.heap.size ByteArray.empty 0 ByteArray.empty ByteArray.empty false ((w1.drewN nq).alloc (.cells #[.string ByteArray.empty, .int .i64 0, .string ByteArray.empty, .string ByteArray.empty, .bool false] 23))) := box (UF.new _ _ _ _ _ (w1.drewN nq) _)
          have RX := box (RX1.out.below bz RX1.out.lt)
          have BX := box (BX1.out.trans (bz.mono hGle))
          clear bz
          by_cases hi : idxF r.data.toList 63 0 < 0
          · have q0 := idxF_none hi
            rw [List.drop_zero] at q0
            obtain ⟨k1, k2, k3⟩ := cut_no q0
            have HI : Box (idxF r.data.toList 63 0 = -1) := box (by unfold idxF; rw [List.drop_zero, if_pos q0])
            have HQ : Box (queryL r.data.toList = some []) := box (by unfold queryL; rw [if_neg (by rw [k3]; simp)])
            have HRP : Box (cut1 63 r.data.toList = r.data.toList) := box k1
            have HC : Box (cutB 63 r.data.toList = false) := box k3
            clear hi q0 k1 k2 k3
            rw [HI.out]
            go_wp2_with fail
            refine (rNormalize_any r _ (by omega)).mono ?_; rintro e w3 ⟨rfl, hb3⟩
            have U3 := box (UX.out.below hb3 UX.out.lt)
            have R3 := box (RX.out.below hb3 RX.out.lt)
            have B3 := box (BX.out.trans (hb3.mono BX.out.size))
            have hg3 := U3.out.lt
            clear hb3
            rcases hp : normL r.data.toList with _ | p
            · have HU : Box (uriL t.data.toList h.data.toList = (zeroU, 9)) := box (by rw [HP.out]; unfold partsL pathL; rw [HQ.out, HRP.out, hp]; rfl)
              clear hp
              unfold optV
              obtain ⟨⟨r0, r1, r2, r3, r4⟩, ⟨f0, f1, f2, f3, f4⟩⟩ := R3.out
              go_wp2
              (try simp only [Exit.inBlock, Exit.then])
              refine bodyPost_ret (v := uriV (zeroU, 9)) (by rw [results_cell_tmp rfl]; go_simp; rfl) rfl ⟨?_, ?_⟩
              · exact ret_uri (by rw [HU.out])
              · exact below_uset B3.out _ _ _ _ _
            · have hpl := norm_len _ _ _ (Nat.le_refl _) hp
              have HPL : Box ((bs (slashL p)).size ≤ 60000) := box (by
                have hz : r.data.toList.length = r.size := by simp
                rw [bs_size]; unfold slashL; split
                · simp
                · omega)
              have HPA : Box (pathL r.data.toList = some (segL (slashL p))) := box (by unfold pathL; rw [HRP.out, hp]; rfl)
              clear hp hpl
              unfold optV
              obtain ⟨sg, hsg⟩ : ∃ sg, bs (segL (slashL p)) = sg := ⟨_, rfl⟩
              have SGQ := box hsg
              clear hsg
              obtain ⟨⟨u0, u1, u2, u3, u4⟩, ⟨v0, v1, v2, v3, v4⟩⟩ := U3.out
              go_wp2_with fail
              · have qe : p.isEmpty = true := by assumption
                rw [show (⟨#[47]⟩ : ByteArray) = bs (slashL p) from by rw [List.isEmpty_iff.mp qe]; rfl]
                clear qe
                refine (rSegments_any (bs (slashL p)) _ HPL.out).mono ?_; rintro e w4 ⟨rfl, hb4⟩; rw [bs_toList, SGQ.out]
                have U4 := box (U3.out.below hb4 U3.out.lt)
                have R4 := box (R3.out.below hb4 R3.out.lt)
                have B4 := box (B3.out.trans (hb4.mono B3.out.size))
                clear hb4 u0 u1 u2 u3 u4 v0 v1 v2 v3 v4
                obtain ⟨⟨u0, u1, u2, u3, u4⟩, ⟨v0, v1, v2, v3, v4⟩⟩ := U4.out
                go_wp2_with fail
                refine (rAuthority_any a _ (by omega)).mono ?_; rintro e w5 ⟨rfl, hb5⟩
                clear u0 u1 u2 u3 u4 v0 v1 v2 v3 v4
                have U5 := box ((U4.out.setp sg).below hb5 (U4.out.setp sg).lt)
                have R5 := box ((R4.out.other (g2 := w1.heap.size) (i := 2) hGne (.string sg)).below hb5 (R4.out.other (g2 := w1.heap.size) (i := 2) hGne (.string sg)).lt)
                have B4s : Below w.heap.size w (w4.setCell ⟨w1.heap.size, 2, none⟩ (.string sg)) := B4.out.setCell (p := ⟨w1.heap.size, 2, none⟩) hGle _
                have B5 := box (B4s.trans (hb5.mono B4s.size))
                clear hb5 B4s
                rcases ha : authL a.data.toList with _ | ⟨x, n⟩
                · have HU : Box (uriL t.data.toList h.data.toList = (zeroU, 6)) := box (by rw [HP.out]; unfold partsL; rw [HQ.out, HPA.out, ha])
                  clear ha
                  unfold authV
                  obtain ⟨⟨r0, r1, r2, r3, r4⟩, ⟨f0, f1, f2, f3, f4⟩⟩ := R5.out
                  go_wp2
                  (try simp only [Exit.inBlock, Exit.then])
                  refine bodyPost_ret (v := uriV (zeroU, 6)) (by rw [results_cell_tmp rfl]; go_simp; rfl) rfl ⟨?_, ?_⟩
                  · exact ret_uri (by rw [HU.out])
                  · exact below_uset B5.out _ _ _ _ _
                · have HU : Box (uriL t.data.toList h.data.toList = ((x, n, segL (slashL p), [], false), 0)) := box (by rw [HP.out]; unfold partsL; rw [HQ.out, HPA.out, ha, HC.out])
                  clear ha
                  unfold authV
                  obtain ⟨⟨r0, r1, r2, r3, r4⟩, ⟨f0, f1, f2, f3, f4⟩⟩ := R5.out
                  obtain ⟨⟨u0, u1, u2, u3, u4⟩, ⟨v0, v1, v2, v3, v4⟩⟩ := U5.out
                  go_wp2
                  (try simp only [Exit.inBlock, Exit.then])
                  refine bodyPost_ret (v := .tuple #[uV (bs x) n sg ByteArray.empty false, .int .i64 0]) (by rw [results_cell_tmp rfl]; go_simp; rfl) rfl ⟨?_, ?_⟩
                  · rw [HU.out]; unfold uriV; rw [SGQ.out]; (try rfl)
                  · exact below_uset (below_ug B5.out hGle _ _) _ _ _ _ _
              · have qe : p.isEmpty = false := by assumption
                rw [show (⟨p.toArray⟩ : ByteArray) = bs (slashL p) from by unfold slashL; rw [if_neg (by intro e; rw [e] at qe; cases qe)]; rfl]
                clear qe
                refine (rSegments_any (bs (slashL p)) _ HPL.out).mono ?_; rintro e w4 ⟨rfl, hb4⟩; rw [bs_toList, SGQ.out]
                have U4 := box (U3.out.below hb4 U3.out.lt)
                have R4 := box (R3.out.below hb4 R3.out.lt)
                have B4 := box (B3.out.trans (hb4.mono B3.out.size))
                clear hb4 u0 u1 u2 u3 u4 v0 v1 v2 v3 v4
                obtain ⟨⟨u0, u1, u2, u3, u4⟩, ⟨v0, v1, v2, v3, v4⟩⟩ := U4.out
                go_wp2_with fail
                refine (rAuthority_any a _ (by omega)).mono ?_; rintro e w5 ⟨rfl, hb5⟩
                clear u0 u1 u2 u3 u4 v0 v1 v2 v3 v4
                have U5 := box ((U4.out.setp sg).below hb5 (U4.out.setp sg).lt)
                have R5 := box ((R4.out.other (g2 := w1.heap.size) (i := 2) hGne (.string sg)).below hb5 (R4.out.other (g2 := w1.heap.size) (i := 2) hGne (.string sg)).lt)
                have B4s : Below w.heap.size w (w4.setCell ⟨w1.heap.size, 2, none⟩ (.string sg)) := B4.out.setCell (p := ⟨w1.heap.size, 2, none⟩) hGle _
                have B5 := box (B4s.trans (hb5.mono B4s.size))
                clear hb5 B4s
                rcases ha : authL a.data.toList with _ | ⟨x, n⟩
                · have HU : Box (uriL t.data.toList h.data.toList = (zeroU, 6)) := box (by rw [HP.out]; unfold partsL; rw [HQ.out, HPA.out, ha])
                  clear ha
                  unfold authV
                  obtain ⟨⟨r0, r1, r2, r3, r4⟩, ⟨f0, f1, f2, f3, f4⟩⟩ := R5.out
                  go_wp2
                  (try simp only [Exit.inBlock, Exit.then])
                  refine bodyPost_ret (v := uriV (zeroU, 6)) (by rw [results_cell_tmp rfl]; go_simp; rfl) rfl ⟨?_, ?_⟩
                  · exact ret_uri (by rw [HU.out])
                  · exact below_uset B5.out _ _ _ _ _
                · have HU : Box (uriL t.data.toList h.data.toList = ((x, n, segL (slashL p), [], false), 0)) := box (by rw [HP.out]; unfold partsL; rw [HQ.out, HPA.out, ha, HC.out])
                  clear ha
                  unfold authV
                  obtain ⟨⟨r0, r1, r2, r3, r4⟩, ⟨f0, f1, f2, f3, f4⟩⟩ := R5.out
                  obtain ⟨⟨u0, u1, u2, u3, u4⟩, ⟨v0, v1, v2, v3, v4⟩⟩ := U5.out
                  go_wp2
                  (try simp only [Exit.inBlock, Exit.then])
                  refine bodyPost_ret (v := .tuple #[uV (bs x) n sg ByteArray.empty false, .int .i64 0]) (by rw [results_cell_tmp rfl]; go_simp; rfl) rfl ⟨?_, ?_⟩
                  · rw [HU.out]; unfold uriV; rw [SGQ.out]; (try rfl)
                  · exact below_uset (below_ug B5.out hGle _ _) _ _ _ _ _
          · obtain ⟨o, g1, g2, g3⟩ := idxF_some hi
            rw [List.drop_zero] at g1
            simp only [Nat.zero_add] at g2 g3
            have hz2 : r.data.toList.length = r.size := by simp
            rw [hz2] at g3
            obtain ⟨_, k1, k2, k3⟩ := cut_at g1
            have HI := box g2
            obtain ⟨rp, hrp⟩ : ∃ rp, r.extract 0 o = rp := ⟨_, rfl⟩
            obtain ⟨rq, hrq⟩ : ∃ rq, r.extract (o + 1) r.size = rq := ⟨_, rfl⟩
            have HX := box hrp
            have HY := box hrq
            have hrps : rp.size ≤ 50000 := by rw [← hrp, ByteArray.size_extract]; omega
            have hrqs : rq.size ≤ 50000 := by rw [← hrq, ByteArray.size_extract]; omega
            have HRP : Box (cut1 63 r.data.toList = rp.data.toList) := box (by rw [← hrp, ext_bs, List.drop_zero, k1]; rfl)
            have HRQ : Box (cut2 63 r.data.toList = rq.data.toList) := box (by rw [← hrq, ext_bs, List.take_of_length_le (by simp), k2]; rfl)
            have HC : Box (cutB 63 r.data.toList = true) := box k3
            have l1 : (o : Int) ≤ (r.size : Int) := by omega
            have l2 : (o : Int) + 1 ≤ (r.size : Int) := by omega
            have l3 : (0 : Int) ≤ (o : Int) + 1 := by omega
            clear hi g1 g2 k1 k2 k3 hrp hrq hz2
            rw [HI.out]
            go_wp2_with fail
            rw [HY.out]
            refine (rNormalize_any rq _ (by omega)).mono ?_; rintro e w2 ⟨rfl, hb2⟩
            have U2 := box (UX.out.below hb2 UX.out.lt)
            have R2 := box (RX.out.below hb2 RX.out.lt)
            have B2 := box (BX.out.trans (hb2.mono BX.out.size))
            clear hb2 UX RX BX
            rcases hq : normL rq.data.toList with _ | qq
            · have HU : Box (uriL t.data.toList h.data.toList = (zeroU, 9)) := box (by rw [HP.out]; unfold partsL queryL; rw [if_pos HC.out, HRQ.out, hq])
              clear hq
              unfold optV
              obtain ⟨⟨r0, r1, r2, r3, r4⟩, ⟨f0, f1, f2, f3, f4⟩⟩ := R2.out
              go_wp2
              (try simp only [Exit.inBlock, Exit.then])
              refine bodyPost_ret (v := uriV (zeroU, 9)) (by rw [results_cell_tmp rfl]; go_simp; rfl) rfl ⟨?_, ?_⟩
              · exact ret_uri (by rw [HU.out])
              · exact below_uset B2.out _ _ _ _ _
            · have HQ : Box (queryL r.data.toList = some qq) := box (by unfold queryL; rw [if_pos HC.out, HRQ.out, hq])
              clear hq
              unfold optV
              obtain ⟨⟨u0, u1, u2, u3, u4⟩, ⟨v0, v1, v2, v3, v4⟩⟩ := U2.out
              go_wp2_with fail
              go_region_held3 (fun w' => True) (first | trivial) (fail)
              rw [HX.out]
              have UX0 := (U2.out.setq (bs qq)).setb true
              have RX0 := (R2.out.other (g2 := w1.heap.size) (i := 3) hGne (.string (bs qq))).other (g2 := w1.heap.size) (i := 4) hGne (.bool true)
              have BX0 : Below w.heap.size w ((w2.setCell ⟨w1.heap.size, 3, none⟩ (.string (bs qq))).setCell ⟨w1.heap.size, 4, none⟩ (.bool true)) := (B2.out.setCell (p := ⟨w1.heap.size, 3, none⟩) hGle _).setCell (p := ⟨w1.heap.size, 4, none⟩) hGle _
              have UX := box (UX0.below (Below.refl _ _).drew UX0.lt)
              have RX := box (RX0.below (Below.refl _ _).drew RX0.lt)
              have BX := box BX0.drew
              clear UX0 RX0 BX0 u0 u1 u2 u3 u4 v0 v1 v2 v3 v4
              go_wp2_with fail
              refine (rNormalize_any rp _ (by omega)).mono ?_; rintro e w3 ⟨rfl, hb3⟩
              have U3 := box (UX.out.below hb3 UX.out.lt)
              have R3 := box (RX.out.below hb3 RX.out.lt)
              have B3 := box (BX.out.trans (hb3.mono BX.out.size))
              have hg3 := U3.out.lt
              clear hb3
              rcases hp : normL rp.data.toList with _ | p
              · have HU : Box (uriL t.data.toList h.data.toList = (zeroU, 9)) := box (by rw [HP.out]; unfold partsL pathL; rw [HQ.out, HRP.out, hp]; rfl)
                clear hp
                unfold optV
                obtain ⟨⟨r0, r1, r2, r3, r4⟩, ⟨f0, f1, f2, f3, f4⟩⟩ := R3.out
                go_wp2
                (try simp only [Exit.inBlock, Exit.then])
                refine bodyPost_ret (v := uriV (zeroU, 9)) (by rw [results_cell_tmp rfl]; go_simp; rfl) rfl ⟨?_, ?_⟩
                · exact ret_uri (by rw [HU.out])
                · exact below_uset B3.out _ _ _ _ _
              · have hpl := norm_len _ _ _ (Nat.le_refl _) hp
                have HPL : Box ((bs (slashL p)).size ≤ 60000) := box (by
                  have hz : rp.data.toList.length = rp.size := by simp
                  rw [bs_size]; unfold slashL; split
                  · simp
                  · omega)
                have HPA : Box (pathL r.data.toList = some (segL (slashL p))) := box (by unfold pathL; rw [HRP.out, hp]; rfl)
                clear hp hpl
                unfold optV
                obtain ⟨sg, hsg⟩ : ∃ sg, bs (segL (slashL p)) = sg := ⟨_, rfl⟩
                have SGQ := box hsg
                clear hsg
                obtain ⟨⟨u0, u1, u2, u3, u4⟩, ⟨v0, v1, v2, v3, v4⟩⟩ := U3.out
                go_wp2_with fail
                · have qe : p.isEmpty = true := by assumption
                  rw [show (⟨#[47]⟩ : ByteArray) = bs (slashL p) from by rw [List.isEmpty_iff.mp qe]; rfl]
                  clear qe
                  refine (rSegments_any (bs (slashL p)) _ HPL.out).mono ?_; rintro e w4 ⟨rfl, hb4⟩; rw [bs_toList, SGQ.out]
                  have U4 := box (U3.out.below hb4 U3.out.lt)
                  have R4 := box (R3.out.below hb4 R3.out.lt)
                  have B4 := box (B3.out.trans (hb4.mono B3.out.size))
                  clear hb4 u0 u1 u2 u3 u4 v0 v1 v2 v3 v4
                  obtain ⟨⟨u0, u1, u2, u3, u4⟩, ⟨v0, v1, v2, v3, v4⟩⟩ := U4.out
                  go_wp2_with fail
                  refine (rAuthority_any a _ (by omega)).mono ?_; rintro e w5 ⟨rfl, hb5⟩
                  clear u0 u1 u2 u3 u4 v0 v1 v2 v3 v4
                  have U5 := box ((U4.out.setp sg).below hb5 (U4.out.setp sg).lt)
                  have R5 := box ((R4.out.other (g2 := w1.heap.size) (i := 2) hGne (.string sg)).below hb5 (R4.out.other (g2 := w1.heap.size) (i := 2) hGne (.string sg)).lt)
                  have B4s : Below w.heap.size w (w4.setCell ⟨w1.heap.size, 2, none⟩ (.string sg)) := B4.out.setCell (p := ⟨w1.heap.size, 2, none⟩) hGle _
                  have B5 := box (B4s.trans (hb5.mono B4s.size))
                  clear hb5 B4s
                  rcases ha : authL a.data.toList with _ | ⟨x, n⟩
                  · have HU : Box (uriL t.data.toList h.data.toList = (zeroU, 6)) := box (by rw [HP.out]; unfold partsL; rw [HQ.out, HPA.out, ha])
                    clear ha
                    unfold authV
                    obtain ⟨⟨r0, r1, r2, r3, r4⟩, ⟨f0, f1, f2, f3, f4⟩⟩ := R5.out
                    go_wp2
                    (try simp only [Exit.inBlock, Exit.then])
                    refine bodyPost_ret (v := uriV (zeroU, 6)) (by rw [results_cell_tmp rfl]; go_simp; rfl) rfl ⟨?_, ?_⟩
                    · exact ret_uri (by rw [HU.out])
                    · exact below_uset B5.out _ _ _ _ _
                  · have HU : Box (uriL t.data.toList h.data.toList = ((x, n, segL (slashL p), qq, true), 0)) := box (by rw [HP.out]; unfold partsL; rw [HQ.out, HPA.out, ha, HC.out])
                    clear ha
                    unfold authV
                    obtain ⟨⟨r0, r1, r2, r3, r4⟩, ⟨f0, f1, f2, f3, f4⟩⟩ := R5.out
                    obtain ⟨⟨u0, u1, u2, u3, u4⟩, ⟨v0, v1, v2, v3, v4⟩⟩ := U5.out
                    go_wp2
                    (try simp only [Exit.inBlock, Exit.then])
                    refine bodyPost_ret (v := .tuple #[uV (bs x) n sg (bs qq) true, .int .i64 0]) (by rw [results_cell_tmp rfl]; go_simp; rfl) rfl ⟨?_, ?_⟩
                    · rw [HU.out]; unfold uriV; rw [SGQ.out]; (try rfl)
                    · exact below_uset (below_ug B5.out hGle _ _) _ _ _ _ _
                · have qe : p.isEmpty = false := by assumption
                  rw [show (⟨p.toArray⟩ : ByteArray) = bs (slashL p) from by unfold slashL; rw [if_neg (by intro e; rw [e] at qe; cases qe)]; rfl]
                  clear qe
                  refine (rSegments_any (bs (slashL p)) _ HPL.out).mono ?_; rintro e w4 ⟨rfl, hb4⟩; rw [bs_toList, SGQ.out]
                  have U4 := box (U3.out.below hb4 U3.out.lt)
                  have R4 := box (R3.out.below hb4 R3.out.lt)
                  have B4 := box (B3.out.trans (hb4.mono B3.out.size))
                  clear hb4 u0 u1 u2 u3 u4 v0 v1 v2 v3 v4
                  obtain ⟨⟨u0, u1, u2, u3, u4⟩, ⟨v0, v1, v2, v3, v4⟩⟩ := U4.out
                  go_wp2_with fail
                  refine (rAuthority_any a _ (by omega)).mono ?_; rintro e w5 ⟨rfl, hb5⟩
                  clear u0 u1 u2 u3 u4 v0 v1 v2 v3 v4
                  have U5 := box ((U4.out.setp sg).below hb5 (U4.out.setp sg).lt)
                  have R5 := box ((R4.out.other (g2 := w1.heap.size) (i := 2) hGne (.string sg)).below hb5 (R4.out.other (g2 := w1.heap.size) (i := 2) hGne (.string sg)).lt)
                  have B4s : Below w.heap.size w (w4.setCell ⟨w1.heap.size, 2, none⟩ (.string sg)) := B4.out.setCell (p := ⟨w1.heap.size, 2, none⟩) hGle _
                  have B5 := box (B4s.trans (hb5.mono B4s.size))
                  clear hb5 B4s
                  rcases ha : authL a.data.toList with _ | ⟨x, n⟩
                  · have HU : Box (uriL t.data.toList h.data.toList = (zeroU, 6)) := box (by rw [HP.out]; unfold partsL; rw [HQ.out, HPA.out, ha])
                    clear ha
                    unfold authV
                    obtain ⟨⟨r0, r1, r2, r3, r4⟩, ⟨f0, f1, f2, f3, f4⟩⟩ := R5.out
                    go_wp2
                    (try simp only [Exit.inBlock, Exit.then])
                    refine bodyPost_ret (v := uriV (zeroU, 6)) (by rw [results_cell_tmp rfl]; go_simp; rfl) rfl ⟨?_, ?_⟩
                    · exact ret_uri (by rw [HU.out])
                    · exact below_uset B5.out _ _ _ _ _
                  · have HU : Box (uriL t.data.toList h.data.toList = ((x, n, segL (slashL p), qq, true), 0)) := box (by rw [HP.out]; unfold partsL; rw [HQ.out, HPA.out, ha, HC.out])
                    clear ha
                    unfold authV
                    obtain ⟨⟨r0, r1, r2, r3, r4⟩, ⟨f0, f1, f2, f3, f4⟩⟩ := R5.out
                    obtain ⟨⟨u0, u1, u2, u3, u4⟩, ⟨v0, v1, v2, v3, v4⟩⟩ := U5.out
                    go_wp2
                    (try simp only [Exit.inBlock, Exit.then])
                    refine bodyPost_ret (v := .tuple #[uV (bs x) n sg (bs qq) true, .int .i64 0]) (by rw [results_cell_tmp rfl]; go_simp; rfl) rfl ⟨?_, ?_⟩
                    · rw [HU.out]; unfold uriV; rw [SGQ.out]; (try rfl)
                    · exact below_uset (below_ug B5.out hGle _ _) _ _ _ _ _
        · go_wp2
          go_quiet (fail)
          have hEA : t.extract 7 k = a := by rw [KE.out]; exact HA.out
          have hER : t.extract k t.size = r := by rw [KE.out]; exact HR.out
          rw [hEA, hER]
          clear hEA hER
          clear q
          go_wp2_with fail
          refine (rIndex_any r 63 63 0 _ RS.out (Nat.zero_le _) rfl).mono ?_; rintro e2 wi ⟨rfl, rfl⟩
          have bz : Below w1.heap.size w1 ((w1.drewN nq).alloc (.cells #[.string ByteArray.empty, .int .i64 0, .string ByteArray.empty, .string ByteArray.empty, .bool false] 23)) := (below_drewN w1 nq).alloc (Nat.le_refl _) _
          have UX : Box (UF w1.heap.size ByteArray.empty 0 ByteArray.empty ByteArray.empty false ((w1.drewN nq).alloc (.cells #[.string ByteArray.empty, .int .i64 0, .string ByteArray.empty, .string ByteArray.empty, .bool false] 23))) := box (UF.new _ _ _ _ _ (w1.drewN nq) _)
          have RX := box (RX1.out.below bz RX1.out.lt)
          have BX := box (BX1.out.trans (bz.mono hGle))
          clear bz
          by_cases hi : idxF r.data.toList 63 0 < 0
          · have q0 := idxF_none hi
            rw [List.drop_zero] at q0
            obtain ⟨k1, k2, k3⟩ := cut_no q0
            have HI : Box (idxF r.data.toList 63 0 = -1) := box (by unfold idxF; rw [List.drop_zero, if_pos q0])
            have HQ : Box (queryL r.data.toList = some []) := box (by unfold queryL; rw [if_neg (by rw [k3]; simp)])
            have HRP : Box (cut1 63 r.data.toList = r.data.toList) := box k1
            have HC : Box (cutB 63 r.data.toList = false) := box k3
            clear hi q0 k1 k2 k3
            rw [HI.out]
            go_wp2_with fail
            refine (rNormalize_any r _ (by omega)).mono ?_; rintro e w3 ⟨rfl, hb3⟩
            have U3 := box (UX.out.below hb3 UX.out.lt)
            have R3 := box (RX.out.below hb3 RX.out.lt)
            have B3 := box (BX.out.trans (hb3.mono BX.out.size))
            have hg3 := U3.out.lt
            clear hb3
            rcases hp : normL r.data.toList with _ | p
            · have HU : Box (uriL t.data.toList h.data.toList = (zeroU, 9)) := box (by rw [HP.out]; unfold partsL pathL; rw [HQ.out, HRP.out, hp]; rfl)
              clear hp
              unfold optV
              obtain ⟨⟨r0, r1, r2, r3, r4⟩, ⟨f0, f1, f2, f3, f4⟩⟩ := R3.out
              go_wp2
              (try simp only [Exit.inBlock, Exit.then])
              refine bodyPost_ret (v := uriV (zeroU, 9)) (by rw [results_cell_tmp rfl]; go_simp; rfl) rfl ⟨?_, ?_⟩
              · exact ret_uri (by rw [HU.out])
              · exact below_uset B3.out _ _ _ _ _
            · have hpl := norm_len _ _ _ (Nat.le_refl _) hp
              have HPL : Box ((bs (slashL p)).size ≤ 60000) := box (by
                have hz : r.data.toList.length = r.size := by simp
                rw [bs_size]; unfold slashL; split
                · simp
                · omega)
              have HPA : Box (pathL r.data.toList = some (segL (slashL p))) := box (by unfold pathL; rw [HRP.out, hp]; rfl)
              clear hp hpl
              unfold optV
              obtain ⟨sg, hsg⟩ : ∃ sg, bs (segL (slashL p)) = sg := ⟨_, rfl⟩
              have SGQ := box hsg
              clear hsg
              obtain ⟨⟨u0, u1, u2, u3, u4⟩, ⟨v0, v1, v2, v3, v4⟩⟩ := U3.out
              go_wp2_with fail
              · have qe : p.isEmpty = true := by assumption
                rw [show (⟨#[47]⟩ : ByteArray) = bs (slashL p) from by rw [List.isEmpty_iff.mp qe]; rfl]
                clear qe
                refine (rSegments_any (bs (slashL p)) _ HPL.out).mono ?_; rintro e w4 ⟨rfl, hb4⟩; rw [bs_toList, SGQ.out]
                have U4 := box (U3.out.below hb4 U3.out.lt)
                have R4 := box (R3.out.below hb4 R3.out.lt)
                have B4 := box (B3.out.trans (hb4.mono B3.out.size))
                clear hb4 u0 u1 u2 u3 u4 v0 v1 v2 v3 v4
                obtain ⟨⟨u0, u1, u2, u3, u4⟩, ⟨v0, v1, v2, v3, v4⟩⟩ := U4.out
                go_wp2_with fail
                refine (rAuthority_any a _ (by omega)).mono ?_; rintro e w5 ⟨rfl, hb5⟩
                clear u0 u1 u2 u3 u4 v0 v1 v2 v3 v4
                have U5 := box ((U4.out.setp sg).below hb5 (U4.out.setp sg).lt)
                have R5 := box ((R4.out.other (g2 := w1.heap.size) (i := 2) hGne (.string sg)).below hb5 (R4.out.other (g2 := w1.heap.size) (i := 2) hGne (.string sg)).lt)
                have B4s : Below w.heap.size w (w4.setCell ⟨w1.heap.size, 2, none⟩ (.string sg)) := B4.out.setCell (p := ⟨w1.heap.size, 2, none⟩) hGle _
                have B5 := box (B4s.trans (hb5.mono B4s.size))
                clear hb5 B4s
                rcases ha : authL a.data.toList with _ | ⟨x, n⟩
                · have HU : Box (uriL t.data.toList h.data.toList = (zeroU, 6)) := box (by rw [HP.out]; unfold partsL; rw [HQ.out, HPA.out, ha])
                  clear ha
                  unfold authV
                  obtain ⟨⟨r0, r1, r2, r3, r4⟩, ⟨f0, f1, f2, f3, f4⟩⟩ := R5.out
                  go_wp2
                  (try simp only [Exit.inBlock, Exit.then])
                  refine bodyPost_ret (v := uriV (zeroU, 6)) (by rw [results_cell_tmp rfl]; go_simp; rfl) rfl ⟨?_, ?_⟩
                  · exact ret_uri (by rw [HU.out])
                  · exact below_uset B5.out _ _ _ _ _
                · have HU : Box (uriL t.data.toList h.data.toList = ((x, n, segL (slashL p), [], false), 0)) := box (by rw [HP.out]; unfold partsL; rw [HQ.out, HPA.out, ha, HC.out])
                  clear ha
                  unfold authV
                  obtain ⟨⟨r0, r1, r2, r3, r4⟩, ⟨f0, f1, f2, f3, f4⟩⟩ := R5.out
                  obtain ⟨⟨u0, u1, u2, u3, u4⟩, ⟨v0, v1, v2, v3, v4⟩⟩ := U5.out
                  go_wp2
                  (try simp only [Exit.inBlock, Exit.then])
                  refine bodyPost_ret (v := .tuple #[uV (bs x) n sg ByteArray.empty false, .int .i64 0]) (by rw [results_cell_tmp rfl]; go_simp; rfl) rfl ⟨?_, ?_⟩
                  · rw [HU.out]; unfold uriV; rw [SGQ.out]; (try rfl)
                  · exact below_uset (below_ug B5.out hGle _ _) _ _ _ _ _
              · have qe : p.isEmpty = false := by assumption
                rw [show (⟨p.toArray⟩ : ByteArray) = bs (slashL p) from by unfold slashL; rw [if_neg (by intro e; rw [e] at qe; cases qe)]; rfl]
                clear qe
                refine (rSegments_any (bs (slashL p)) _ HPL.out).mono ?_; rintro e w4 ⟨rfl, hb4⟩; rw [bs_toList, SGQ.out]
                have U4 := box (U3.out.below hb4 U3.out.lt)
                have R4 := box (R3.out.below hb4 R3.out.lt)
                have B4 := box (B3.out.trans (hb4.mono B3.out.size))
                clear hb4 u0 u1 u2 u3 u4 v0 v1 v2 v3 v4
                obtain ⟨⟨u0, u1, u2, u3, u4⟩, ⟨v0, v1, v2, v3, v4⟩⟩ := U4.out
                go_wp2_with fail
                refine (rAuthority_any a _ (by omega)).mono ?_; rintro e w5 ⟨rfl, hb5⟩
                clear u0 u1 u2 u3 u4 v0 v1 v2 v3 v4
                have U5 := box ((U4.out.setp sg).below hb5 (U4.out.setp sg).lt)
                have R5 := box ((R4.out.other (g2 := w1.heap.size) (i := 2) hGne (.string sg)).below hb5 (R4.out.other (g2 := w1.heap.size) (i := 2) hGne (.string sg)).lt)
                have B4s : Below w.heap.size w (w4.setCell ⟨w1.heap.size, 2, none⟩ (.string sg)) := B4.out.setCell (p := ⟨w1.heap.size, 2, none⟩) hGle _
                have B5 := box (B4s.trans (hb5.mono B4s.size))
                clear hb5 B4s
                rcases ha : authL a.data.toList with _ | ⟨x, n⟩
                · have HU : Box (uriL t.data.toList h.data.toList = (zeroU, 6)) := box (by rw [HP.out]; unfold partsL; rw [HQ.out, HPA.out, ha])
                  clear ha
                  unfold authV
                  obtain ⟨⟨r0, r1, r2, r3, r4⟩, ⟨f0, f1, f2, f3, f4⟩⟩ := R5.out
                  go_wp2
                  (try simp only [Exit.inBlock, Exit.then])
                  refine bodyPost_ret (v := uriV (zeroU, 6)) (by rw [results_cell_tmp rfl]; go_simp; rfl) rfl ⟨?_, ?_⟩
                  · exact ret_uri (by rw [HU.out])
                  · exact below_uset B5.out _ _ _ _ _
                · have HU : Box (uriL t.data.toList h.data.toList = ((x, n, segL (slashL p), [], false), 0)) := box (by rw [HP.out]; unfold partsL; rw [HQ.out, HPA.out, ha, HC.out])
                  clear ha
                  unfold authV
                  obtain ⟨⟨r0, r1, r2, r3, r4⟩, ⟨f0, f1, f2, f3, f4⟩⟩ := R5.out
                  obtain ⟨⟨u0, u1, u2, u3, u4⟩, ⟨v0, v1, v2, v3, v4⟩⟩ := U5.out
                  go_wp2
                  (try simp only [Exit.inBlock, Exit.then])
                  refine bodyPost_ret (v := .tuple #[uV (bs x) n sg ByteArray.empty false, .int .i64 0]) (by rw [results_cell_tmp rfl]; go_simp; rfl) rfl ⟨?_, ?_⟩
                  · rw [HU.out]; unfold uriV; rw [SGQ.out]; (try rfl)
                  · exact below_uset (below_ug B5.out hGle _ _) _ _ _ _ _
          · obtain ⟨o, g1, g2, g3⟩ := idxF_some hi
            rw [List.drop_zero] at g1
            simp only [Nat.zero_add] at g2 g3
            have hz2 : r.data.toList.length = r.size := by simp
            rw [hz2] at g3
            obtain ⟨_, k1, k2, k3⟩ := cut_at g1
            have HI := box g2
            obtain ⟨rp, hrp⟩ : ∃ rp, r.extract 0 o = rp := ⟨_, rfl⟩
            obtain ⟨rq, hrq⟩ : ∃ rq, r.extract (o + 1) r.size = rq := ⟨_, rfl⟩
            have HX := box hrp
            have HY := box hrq
            have hrps : rp.size ≤ 50000 := by rw [← hrp, ByteArray.size_extract]; omega
            have hrqs : rq.size ≤ 50000 := by rw [← hrq, ByteArray.size_extract]; omega
            have HRP : Box (cut1 63 r.data.toList = rp.data.toList) := box (by rw [← hrp, ext_bs, List.drop_zero, k1]; rfl)
            have HRQ : Box (cut2 63 r.data.toList = rq.data.toList) := box (by rw [← hrq, ext_bs, List.take_of_length_le (by simp), k2]; rfl)
            have HC : Box (cutB 63 r.data.toList = true) := box k3
            have l1 : (o : Int) ≤ (r.size : Int) := by omega
            have l2 : (o : Int) + 1 ≤ (r.size : Int) := by omega
            have l3 : (0 : Int) ≤ (o : Int) + 1 := by omega
            clear hi g1 g2 k1 k2 k3 hrp hrq hz2
            rw [HI.out]
            go_wp2_with fail
            rw [HY.out]
            refine (rNormalize_any rq _ (by omega)).mono ?_; rintro e w2 ⟨rfl, hb2⟩
            have U2 := box (UX.out.below hb2 UX.out.lt)
            have R2 := box (RX.out.below hb2 RX.out.lt)
            have B2 := box (BX.out.trans (hb2.mono BX.out.size))
            clear hb2 UX RX BX
            rcases hq : normL rq.data.toList with _ | qq
            · have HU : Box (uriL t.data.toList h.data.toList = (zeroU, 9)) := box (by rw [HP.out]; unfold partsL queryL; rw [if_pos HC.out, HRQ.out, hq])
              clear hq
              unfold optV
              obtain ⟨⟨r0, r1, r2, r3, r4⟩, ⟨f0, f1, f2, f3, f4⟩⟩ := R2.out
              go_wp2
              (try simp only [Exit.inBlock, Exit.then])
              refine bodyPost_ret (v := uriV (zeroU, 9)) (by rw [results_cell_tmp rfl]; go_simp; rfl) rfl ⟨?_, ?_⟩
              · exact ret_uri (by rw [HU.out])
              · exact below_uset B2.out _ _ _ _ _
            · have HQ : Box (queryL r.data.toList = some qq) := box (by unfold queryL; rw [if_pos HC.out, HRQ.out, hq])
              clear hq
              unfold optV
              obtain ⟨⟨u0, u1, u2, u3, u4⟩, ⟨v0, v1, v2, v3, v4⟩⟩ := U2.out
              go_wp2_with fail
              go_region_held3 (fun w' => True) (first | trivial) (fail)
              rw [HX.out]
              have UX0 := (U2.out.setq (bs qq)).setb true
              have RX0 := (R2.out.other (g2 := w1.heap.size) (i := 3) hGne (.string (bs qq))).other (g2 := w1.heap.size) (i := 4) hGne (.bool true)
              have BX0 : Below w.heap.size w ((w2.setCell ⟨w1.heap.size, 3, none⟩ (.string (bs qq))).setCell ⟨w1.heap.size, 4, none⟩ (.bool true)) := (B2.out.setCell (p := ⟨w1.heap.size, 3, none⟩) hGle _).setCell (p := ⟨w1.heap.size, 4, none⟩) hGle _
              have UX := box (UX0.below (Below.refl _ _).drew UX0.lt)
              have RX := box (RX0.below (Below.refl _ _).drew RX0.lt)
              have BX := box BX0.drew
              clear UX0 RX0 BX0 u0 u1 u2 u3 u4 v0 v1 v2 v3 v4
              go_wp2_with fail
              refine (rNormalize_any rp _ (by omega)).mono ?_; rintro e w3 ⟨rfl, hb3⟩
              have U3 := box (UX.out.below hb3 UX.out.lt)
              have R3 := box (RX.out.below hb3 RX.out.lt)
              have B3 := box (BX.out.trans (hb3.mono BX.out.size))
              have hg3 := U3.out.lt
              clear hb3
              rcases hp : normL rp.data.toList with _ | p
              · have HU : Box (uriL t.data.toList h.data.toList = (zeroU, 9)) := box (by rw [HP.out]; unfold partsL pathL; rw [HQ.out, HRP.out, hp]; rfl)
                clear hp
                unfold optV
                obtain ⟨⟨r0, r1, r2, r3, r4⟩, ⟨f0, f1, f2, f3, f4⟩⟩ := R3.out
                go_wp2
                (try simp only [Exit.inBlock, Exit.then])
                refine bodyPost_ret (v := uriV (zeroU, 9)) (by rw [results_cell_tmp rfl]; go_simp; rfl) rfl ⟨?_, ?_⟩
                · exact ret_uri (by rw [HU.out])
                · exact below_uset B3.out _ _ _ _ _
              · have hpl := norm_len _ _ _ (Nat.le_refl _) hp
                have HPL : Box ((bs (slashL p)).size ≤ 60000) := box (by
                  have hz : rp.data.toList.length = rp.size := by simp
                  rw [bs_size]; unfold slashL; split
                  · simp
                  · omega)
                have HPA : Box (pathL r.data.toList = some (segL (slashL p))) := box (by unfold pathL; rw [HRP.out, hp]; rfl)
                clear hp hpl
                unfold optV
                obtain ⟨sg, hsg⟩ : ∃ sg, bs (segL (slashL p)) = sg := ⟨_, rfl⟩
                have SGQ := box hsg
                clear hsg
                obtain ⟨⟨u0, u1, u2, u3, u4⟩, ⟨v0, v1, v2, v3, v4⟩⟩ := U3.out
                go_wp2_with fail
                · have qe : p.isEmpty = true := by assumption
                  rw [show (⟨#[47]⟩ : ByteArray) = bs (slashL p) from by rw [List.isEmpty_iff.mp qe]; rfl]
                  clear qe
                  refine (rSegments_any (bs (slashL p)) _ HPL.out).mono ?_; rintro e w4 ⟨rfl, hb4⟩; rw [bs_toList, SGQ.out]
                  have U4 := box (U3.out.below hb4 U3.out.lt)
                  have R4 := box (R3.out.below hb4 R3.out.lt)
                  have B4 := box (B3.out.trans (hb4.mono B3.out.size))
                  clear hb4 u0 u1 u2 u3 u4 v0 v1 v2 v3 v4
                  obtain ⟨⟨u0, u1, u2, u3, u4⟩, ⟨v0, v1, v2, v3, v4⟩⟩ := U4.out
                  go_wp2_with fail
                  refine (rAuthority_any a _ (by omega)).mono ?_; rintro e w5 ⟨rfl, hb5⟩
                  clear u0 u1 u2 u3 u4 v0 v1 v2 v3 v4
                  have U5 := box ((U4.out.setp sg).below hb5 (U4.out.setp sg).lt)
                  have R5 := box ((R4.out.other (g2 := w1.heap.size) (i := 2) hGne (.string sg)).below hb5 (R4.out.other (g2 := w1.heap.size) (i := 2) hGne (.string sg)).lt)
                  have B4s : Below w.heap.size w (w4.setCell ⟨w1.heap.size, 2, none⟩ (.string sg)) := B4.out.setCell (p := ⟨w1.heap.size, 2, none⟩) hGle _
                  have B5 := box (B4s.trans (hb5.mono B4s.size))
                  clear hb5 B4s
                  rcases ha : authL a.data.toList with _ | ⟨x, n⟩
                  · have HU : Box (uriL t.data.toList h.data.toList = (zeroU, 6)) := box (by rw [HP.out]; unfold partsL; rw [HQ.out, HPA.out, ha])
                    clear ha
                    unfold authV
                    obtain ⟨⟨r0, r1, r2, r3, r4⟩, ⟨f0, f1, f2, f3, f4⟩⟩ := R5.out
                    go_wp2
                    (try simp only [Exit.inBlock, Exit.then])
                    refine bodyPost_ret (v := uriV (zeroU, 6)) (by rw [results_cell_tmp rfl]; go_simp; rfl) rfl ⟨?_, ?_⟩
                    · exact ret_uri (by rw [HU.out])
                    · exact below_uset B5.out _ _ _ _ _
                  · have HU : Box (uriL t.data.toList h.data.toList = ((x, n, segL (slashL p), qq, true), 0)) := box (by rw [HP.out]; unfold partsL; rw [HQ.out, HPA.out, ha, HC.out])
                    clear ha
                    unfold authV
                    obtain ⟨⟨r0, r1, r2, r3, r4⟩, ⟨f0, f1, f2, f3, f4⟩⟩ := R5.out
                    obtain ⟨⟨u0, u1, u2, u3, u4⟩, ⟨v0, v1, v2, v3, v4⟩⟩ := U5.out
                    go_wp2
                    (try simp only [Exit.inBlock, Exit.then])
                    refine bodyPost_ret (v := .tuple #[uV (bs x) n sg (bs qq) true, .int .i64 0]) (by rw [results_cell_tmp rfl]; go_simp; rfl) rfl ⟨?_, ?_⟩
                    · rw [HU.out]; unfold uriV; rw [SGQ.out]; (try rfl)
                    · exact below_uset (below_ug B5.out hGle _ _) _ _ _ _ _
                · have qe : p.isEmpty = false := by assumption
                  rw [show (⟨p.toArray⟩ : ByteArray) = bs (slashL p) from by unfold slashL; rw [if_neg (by intro e; rw [e] at qe; cases qe)]; rfl]
                  clear qe
                  refine (rSegments_any (bs (slashL p)) _ HPL.out).mono ?_; rintro e w4 ⟨rfl, hb4⟩; rw [bs_toList, SGQ.out]
                  have U4 := box (U3.out.below hb4 U3.out.lt)
                  have R4 := box (R3.out.below hb4 R3.out.lt)
                  have B4 := box (B3.out.trans (hb4.mono B3.out.size))
                  clear hb4 u0 u1 u2 u3 u4 v0 v1 v2 v3 v4
                  obtain ⟨⟨u0, u1, u2, u3, u4⟩, ⟨v0, v1, v2, v3, v4⟩⟩ := U4.out
                  go_wp2_with fail
                  refine (rAuthority_any a _ (by omega)).mono ?_; rintro e w5 ⟨rfl, hb5⟩
                  clear u0 u1 u2 u3 u4 v0 v1 v2 v3 v4
                  have U5 := box ((U4.out.setp sg).below hb5 (U4.out.setp sg).lt)
                  have R5 := box ((R4.out.other (g2 := w1.heap.size) (i := 2) hGne (.string sg)).below hb5 (R4.out.other (g2 := w1.heap.size) (i := 2) hGne (.string sg)).lt)
                  have B4s : Below w.heap.size w (w4.setCell ⟨w1.heap.size, 2, none⟩ (.string sg)) := B4.out.setCell (p := ⟨w1.heap.size, 2, none⟩) hGle _
                  have B5 := box (B4s.trans (hb5.mono B4s.size))
                  clear hb5 B4s
                  rcases ha : authL a.data.toList with _ | ⟨x, n⟩
                  · have HU : Box (uriL t.data.toList h.data.toList = (zeroU, 6)) := box (by rw [HP.out]; unfold partsL; rw [HQ.out, HPA.out, ha])
                    clear ha
                    unfold authV
                    obtain ⟨⟨r0, r1, r2, r3, r4⟩, ⟨f0, f1, f2, f3, f4⟩⟩ := R5.out
                    go_wp2
                    (try simp only [Exit.inBlock, Exit.then])
                    refine bodyPost_ret (v := uriV (zeroU, 6)) (by rw [results_cell_tmp rfl]; go_simp; rfl) rfl ⟨?_, ?_⟩
                    · exact ret_uri (by rw [HU.out])
                    · exact below_uset B5.out _ _ _ _ _
                  · have HU : Box (uriL t.data.toList h.data.toList = ((x, n, segL (slashL p), qq, true), 0)) := box (by rw [HP.out]; unfold partsL; rw [HQ.out, HPA.out, ha, HC.out])
                    clear ha
                    unfold authV
                    obtain ⟨⟨r0, r1, r2, r3, r4⟩, ⟨f0, f1, f2, f3, f4⟩⟩ := R5.out
                    obtain ⟨⟨u0, u1, u2, u3, u4⟩, ⟨v0, v1, v2, v3, v4⟩⟩ := U5.out
                    go_wp2
                    (try simp only [Exit.inBlock, Exit.then])
                    refine bodyPost_ret (v := .tuple #[uV (bs x) n sg (bs qq) true, .int .i64 0]) (by rw [results_cell_tmp rfl]; go_simp; rfl) rfl ⟨?_, ?_⟩
                    · rw [HU.out]; unfold uriV; rw [SGQ.out]; (try rfl)
                    · exact below_uset (below_ug B5.out hGle _ _) _ _ _ _ _
      · have hmore := end_more (p := endB) (m := t.data.toList.drop 7) (j := k - 7) (by omega) (by simp; omega) (by rw [ej]; exact hp)
        have hk1 : k + 1 ≤ e := by omega
        have q47 : ((t[k].toNat : Int) != 47) = true := by
          unfold endB at hp
          simp only [Bool.and_eq_true, bne_iff_ne] at hp
          rw [bne_iff_ne]; intro q; exact hp.1 (byte_eq (n := 47) (by simpa using q) (by omega))
        have q63 : ((t[k].toNat : Int) != 63) = true := by
          unfold endB at hp
          simp only [Bool.and_eq_true, bne_iff_ne] at hp
          rw [bne_iff_ne]; intro q; exact hp.2 (byte_eq (n := 63) (by simpa using q) (by omega))
        clear hp ej hmore
        go_wp2
        go_round
        case rel => exact ⟨k + 1, by omega, hk1, by go_num⟩
        case measure => simp [intOf]; omega
    · have hke2 : k = e := by omega
      have KE := box hke2
      clear hke2
      have i0 : (7 : Int) ≤ (k : Int) := by omega
      have i1 : (k : Int) ≤ (t.size : Int) := by omega
      have i2 : (0 : Int) ≤ (k : Int) := by omega
      go_wp2
      go_quiet (fail)
      have hEA : t.extract 7 k = a := by rw [KE.out]; exact HA.out
      have hER : t.extract k t.size = r := by rw [KE.out]; exact HR.out
      rw [hEA, hER]
      clear hEA hER
      go_wp2_with fail
      refine (rIndex_any r 63 63 0 _ RS.out (Nat.zero_le _) rfl).mono ?_; rintro e2 wi ⟨rfl, rfl⟩
      have bz : Below w1.heap.size w1 ((w1.drewN nq).alloc (.cells #[.string ByteArray.empty, .int .i64 0, .string ByteArray.empty, .string ByteArray.empty, .bool false] 23)) := (below_drewN w1 nq).alloc (Nat.le_refl _) _
      have UX : Box (UF w1.heap.size ByteArray.empty 0 ByteArray.empty ByteArray.empty false ((w1.drewN nq).alloc (.cells #[.string ByteArray.empty, .int .i64 0, .string ByteArray.empty, .string ByteArray.empty, .bool false] 23))) := box (UF.new _ _ _ _ _ (w1.drewN nq) _)
      have RX := box (RX1.out.below bz RX1.out.lt)
      have BX := box (BX1.out.trans (bz.mono hGle))
      clear bz
      by_cases hi : idxF r.data.toList 63 0 < 0
      · have q0 := idxF_none hi
        rw [List.drop_zero] at q0
        obtain ⟨k1, k2, k3⟩ := cut_no q0
        have HI : Box (idxF r.data.toList 63 0 = -1) := box (by unfold idxF; rw [List.drop_zero, if_pos q0])
        have HQ : Box (queryL r.data.toList = some []) := box (by unfold queryL; rw [if_neg (by rw [k3]; simp)])
        have HRP : Box (cut1 63 r.data.toList = r.data.toList) := box k1
        have HC : Box (cutB 63 r.data.toList = false) := box k3
        clear hi q0 k1 k2 k3
        rw [HI.out]
        go_wp2_with fail
        refine (rNormalize_any r _ (by omega)).mono ?_; rintro e w3 ⟨rfl, hb3⟩
        have U3 := box (UX.out.below hb3 UX.out.lt)
        have R3 := box (RX.out.below hb3 RX.out.lt)
        have B3 := box (BX.out.trans (hb3.mono BX.out.size))
        have hg3 := U3.out.lt
        clear hb3
        rcases hp : normL r.data.toList with _ | p
        · have HU : Box (uriL t.data.toList h.data.toList = (zeroU, 9)) := box (by rw [HP.out]; unfold partsL pathL; rw [HQ.out, HRP.out, hp]; rfl)
          clear hp
          unfold optV
          obtain ⟨⟨r0, r1, r2, r3, r4⟩, ⟨f0, f1, f2, f3, f4⟩⟩ := R3.out
          go_wp2
          (try simp only [Exit.inBlock, Exit.then])
          refine bodyPost_ret (v := uriV (zeroU, 9)) (by rw [results_cell_tmp rfl]; go_simp; rfl) rfl ⟨?_, ?_⟩
          · exact ret_uri (by rw [HU.out])
          · exact below_uset B3.out _ _ _ _ _
        · have hpl := norm_len _ _ _ (Nat.le_refl _) hp
          have HPL : Box ((bs (slashL p)).size ≤ 60000) := box (by
            have hz : r.data.toList.length = r.size := by simp
            rw [bs_size]; unfold slashL; split
            · simp
            · omega)
          have HPA : Box (pathL r.data.toList = some (segL (slashL p))) := box (by unfold pathL; rw [HRP.out, hp]; rfl)
          clear hp hpl
          unfold optV
          obtain ⟨sg, hsg⟩ : ∃ sg, bs (segL (slashL p)) = sg := ⟨_, rfl⟩
          have SGQ := box hsg
          clear hsg
          obtain ⟨⟨u0, u1, u2, u3, u4⟩, ⟨v0, v1, v2, v3, v4⟩⟩ := U3.out
          go_wp2_with fail
          · have qe : p.isEmpty = true := by assumption
            rw [show (⟨#[47]⟩ : ByteArray) = bs (slashL p) from by rw [List.isEmpty_iff.mp qe]; rfl]
            clear qe
            refine (rSegments_any (bs (slashL p)) _ HPL.out).mono ?_; rintro e w4 ⟨rfl, hb4⟩; rw [bs_toList, SGQ.out]
            have U4 := box (U3.out.below hb4 U3.out.lt)
            have R4 := box (R3.out.below hb4 R3.out.lt)
            have B4 := box (B3.out.trans (hb4.mono B3.out.size))
            clear hb4 u0 u1 u2 u3 u4 v0 v1 v2 v3 v4
            obtain ⟨⟨u0, u1, u2, u3, u4⟩, ⟨v0, v1, v2, v3, v4⟩⟩ := U4.out
            go_wp2_with fail
            refine (rAuthority_any a _ (by omega)).mono ?_; rintro e w5 ⟨rfl, hb5⟩
            clear u0 u1 u2 u3 u4 v0 v1 v2 v3 v4
            have U5 := box ((U4.out.setp sg).below hb5 (U4.out.setp sg).lt)
            have R5 := box ((R4.out.other (g2 := w1.heap.size) (i := 2) hGne (.string sg)).below hb5 (R4.out.other (g2 := w1.heap.size) (i := 2) hGne (.string sg)).lt)
            have B4s : Below w.heap.size w (w4.setCell ⟨w1.heap.size, 2, none⟩ (.string sg)) := B4.out.setCell (p := ⟨w1.heap.size, 2, none⟩) hGle _
            have B5 := box (B4s.trans (hb5.mono B4s.size))
            clear hb5 B4s
            rcases ha : authL a.data.toList with _ | ⟨x, n⟩
            · have HU : Box (uriL t.data.toList h.data.toList = (zeroU, 6)) := box (by rw [HP.out]; unfold partsL; rw [HQ.out, HPA.out, ha])
              clear ha
              unfold authV
              obtain ⟨⟨r0, r1, r2, r3, r4⟩, ⟨f0, f1, f2, f3, f4⟩⟩ := R5.out
              go_wp2
              (try simp only [Exit.inBlock, Exit.then])
              refine bodyPost_ret (v := uriV (zeroU, 6)) (by rw [results_cell_tmp rfl]; go_simp; rfl) rfl ⟨?_, ?_⟩
              · exact ret_uri (by rw [HU.out])
              · exact below_uset B5.out _ _ _ _ _
            · have HU : Box (uriL t.data.toList h.data.toList = ((x, n, segL (slashL p), [], false), 0)) := box (by rw [HP.out]; unfold partsL; rw [HQ.out, HPA.out, ha, HC.out])
              clear ha
              unfold authV
              obtain ⟨⟨r0, r1, r2, r3, r4⟩, ⟨f0, f1, f2, f3, f4⟩⟩ := R5.out
              obtain ⟨⟨u0, u1, u2, u3, u4⟩, ⟨v0, v1, v2, v3, v4⟩⟩ := U5.out
              go_wp2
              (try simp only [Exit.inBlock, Exit.then])
              refine bodyPost_ret (v := .tuple #[uV (bs x) n sg ByteArray.empty false, .int .i64 0]) (by rw [results_cell_tmp rfl]; go_simp; rfl) rfl ⟨?_, ?_⟩
              · rw [HU.out]; unfold uriV; rw [SGQ.out]; (try rfl)
              · exact below_uset (below_ug B5.out hGle _ _) _ _ _ _ _
          · have qe : p.isEmpty = false := by assumption
            rw [show (⟨p.toArray⟩ : ByteArray) = bs (slashL p) from by unfold slashL; rw [if_neg (by intro e; rw [e] at qe; cases qe)]; rfl]
            clear qe
            refine (rSegments_any (bs (slashL p)) _ HPL.out).mono ?_; rintro e w4 ⟨rfl, hb4⟩; rw [bs_toList, SGQ.out]
            have U4 := box (U3.out.below hb4 U3.out.lt)
            have R4 := box (R3.out.below hb4 R3.out.lt)
            have B4 := box (B3.out.trans (hb4.mono B3.out.size))
            clear hb4 u0 u1 u2 u3 u4 v0 v1 v2 v3 v4
            obtain ⟨⟨u0, u1, u2, u3, u4⟩, ⟨v0, v1, v2, v3, v4⟩⟩ := U4.out
            go_wp2_with fail
            refine (rAuthority_any a _ (by omega)).mono ?_; rintro e w5 ⟨rfl, hb5⟩
            clear u0 u1 u2 u3 u4 v0 v1 v2 v3 v4
            have U5 := box ((U4.out.setp sg).below hb5 (U4.out.setp sg).lt)
            have R5 := box ((R4.out.other (g2 := w1.heap.size) (i := 2) hGne (.string sg)).below hb5 (R4.out.other (g2 := w1.heap.size) (i := 2) hGne (.string sg)).lt)
            have B4s : Below w.heap.size w (w4.setCell ⟨w1.heap.size, 2, none⟩ (.string sg)) := B4.out.setCell (p := ⟨w1.heap.size, 2, none⟩) hGle _
            have B5 := box (B4s.trans (hb5.mono B4s.size))
            clear hb5 B4s
            rcases ha : authL a.data.toList with _ | ⟨x, n⟩
            · have HU : Box (uriL t.data.toList h.data.toList = (zeroU, 6)) := box (by rw [HP.out]; unfold partsL; rw [HQ.out, HPA.out, ha])
              clear ha
              unfold authV
              obtain ⟨⟨r0, r1, r2, r3, r4⟩, ⟨f0, f1, f2, f3, f4⟩⟩ := R5.out
              go_wp2
              (try simp only [Exit.inBlock, Exit.then])
              refine bodyPost_ret (v := uriV (zeroU, 6)) (by rw [results_cell_tmp rfl]; go_simp; rfl) rfl ⟨?_, ?_⟩
              · exact ret_uri (by rw [HU.out])
              · exact below_uset B5.out _ _ _ _ _
            · have HU : Box (uriL t.data.toList h.data.toList = ((x, n, segL (slashL p), [], false), 0)) := box (by rw [HP.out]; unfold partsL; rw [HQ.out, HPA.out, ha, HC.out])
              clear ha
              unfold authV
              obtain ⟨⟨r0, r1, r2, r3, r4⟩, ⟨f0, f1, f2, f3, f4⟩⟩ := R5.out
              obtain ⟨⟨u0, u1, u2, u3, u4⟩, ⟨v0, v1, v2, v3, v4⟩⟩ := U5.out
              go_wp2
              (try simp only [Exit.inBlock, Exit.then])
              refine bodyPost_ret (v := .tuple #[uV (bs x) n sg ByteArray.empty false, .int .i64 0]) (by rw [results_cell_tmp rfl]; go_simp; rfl) rfl ⟨?_, ?_⟩
              · rw [HU.out]; unfold uriV; rw [SGQ.out]; (try rfl)
              · exact below_uset (below_ug B5.out hGle _ _) _ _ _ _ _
      · obtain ⟨o, g1, g2, g3⟩ := idxF_some hi
        rw [List.drop_zero] at g1
        simp only [Nat.zero_add] at g2 g3
        have hz2 : r.data.toList.length = r.size := by simp
        rw [hz2] at g3
        obtain ⟨_, k1, k2, k3⟩ := cut_at g1
        have HI := box g2
        obtain ⟨rp, hrp⟩ : ∃ rp, r.extract 0 o = rp := ⟨_, rfl⟩
        obtain ⟨rq, hrq⟩ : ∃ rq, r.extract (o + 1) r.size = rq := ⟨_, rfl⟩
        have HX := box hrp
        have HY := box hrq
        have hrps : rp.size ≤ 50000 := by rw [← hrp, ByteArray.size_extract]; omega
        have hrqs : rq.size ≤ 50000 := by rw [← hrq, ByteArray.size_extract]; omega
        have HRP : Box (cut1 63 r.data.toList = rp.data.toList) := box (by rw [← hrp, ext_bs, List.drop_zero, k1]; rfl)
        have HRQ : Box (cut2 63 r.data.toList = rq.data.toList) := box (by rw [← hrq, ext_bs, List.take_of_length_le (by simp), k2]; rfl)
        have HC : Box (cutB 63 r.data.toList = true) := box k3
        have l1 : (o : Int) ≤ (r.size : Int) := by omega
        have l2 : (o : Int) + 1 ≤ (r.size : Int) := by omega
        have l3 : (0 : Int) ≤ (o : Int) + 1 := by omega
        clear hi g1 g2 k1 k2 k3 hrp hrq hz2
        rw [HI.out]
        go_wp2_with fail
        rw [HY.out]
        refine (rNormalize_any rq _ (by omega)).mono ?_; rintro e w2 ⟨rfl, hb2⟩
        have U2 := box (UX.out.below hb2 UX.out.lt)
        have R2 := box (RX.out.below hb2 RX.out.lt)
        have B2 := box (BX.out.trans (hb2.mono BX.out.size))
        clear hb2 UX RX BX
        rcases hq : normL rq.data.toList with _ | qq
        · have HU : Box (uriL t.data.toList h.data.toList = (zeroU, 9)) := box (by rw [HP.out]; unfold partsL queryL; rw [if_pos HC.out, HRQ.out, hq])
          clear hq
          unfold optV
          obtain ⟨⟨r0, r1, r2, r3, r4⟩, ⟨f0, f1, f2, f3, f4⟩⟩ := R2.out
          go_wp2
          (try simp only [Exit.inBlock, Exit.then])
          refine bodyPost_ret (v := uriV (zeroU, 9)) (by rw [results_cell_tmp rfl]; go_simp; rfl) rfl ⟨?_, ?_⟩
          · exact ret_uri (by rw [HU.out])
          · exact below_uset B2.out _ _ _ _ _
        · have HQ : Box (queryL r.data.toList = some qq) := box (by unfold queryL; rw [if_pos HC.out, HRQ.out, hq])
          clear hq
          unfold optV
          obtain ⟨⟨u0, u1, u2, u3, u4⟩, ⟨v0, v1, v2, v3, v4⟩⟩ := U2.out
          go_wp2_with fail
          go_region_held3 (fun w' => True) (first | trivial) (fail)
          rw [HX.out]
          have UX0 := (U2.out.setq (bs qq)).setb true
          have RX0 := (R2.out.other (g2 := w1.heap.size) (i := 3) hGne (.string (bs qq))).other (g2 := w1.heap.size) (i := 4) hGne (.bool true)
          have BX0 : Below w.heap.size w ((w2.setCell ⟨w1.heap.size, 3, none⟩ (.string (bs qq))).setCell ⟨w1.heap.size, 4, none⟩ (.bool true)) := (B2.out.setCell (p := ⟨w1.heap.size, 3, none⟩) hGle _).setCell (p := ⟨w1.heap.size, 4, none⟩) hGle _
          have UX := box (UX0.below (Below.refl _ _).drew UX0.lt)
          have RX := box (RX0.below (Below.refl _ _).drew RX0.lt)
          have BX := box BX0.drew
          clear UX0 RX0 BX0 u0 u1 u2 u3 u4 v0 v1 v2 v3 v4
          go_wp2_with fail
          refine (rNormalize_any rp _ (by omega)).mono ?_; rintro e w3 ⟨rfl, hb3⟩
          have U3 := box (UX.out.below hb3 UX.out.lt)
          have R3 := box (RX.out.below hb3 RX.out.lt)
          have B3 := box (BX.out.trans (hb3.mono BX.out.size))
          have hg3 := U3.out.lt
          clear hb3
          rcases hp : normL rp.data.toList with _ | p
          · have HU : Box (uriL t.data.toList h.data.toList = (zeroU, 9)) := box (by rw [HP.out]; unfold partsL pathL; rw [HQ.out, HRP.out, hp]; rfl)
            clear hp
            unfold optV
            obtain ⟨⟨r0, r1, r2, r3, r4⟩, ⟨f0, f1, f2, f3, f4⟩⟩ := R3.out
            go_wp2
            (try simp only [Exit.inBlock, Exit.then])
            refine bodyPost_ret (v := uriV (zeroU, 9)) (by rw [results_cell_tmp rfl]; go_simp; rfl) rfl ⟨?_, ?_⟩
            · exact ret_uri (by rw [HU.out])
            · exact below_uset B3.out _ _ _ _ _
          · have hpl := norm_len _ _ _ (Nat.le_refl _) hp
            have HPL : Box ((bs (slashL p)).size ≤ 60000) := box (by
              have hz : rp.data.toList.length = rp.size := by simp
              rw [bs_size]; unfold slashL; split
              · simp
              · omega)
            have HPA : Box (pathL r.data.toList = some (segL (slashL p))) := box (by unfold pathL; rw [HRP.out, hp]; rfl)
            clear hp hpl
            unfold optV
            obtain ⟨sg, hsg⟩ : ∃ sg, bs (segL (slashL p)) = sg := ⟨_, rfl⟩
            have SGQ := box hsg
            clear hsg
            obtain ⟨⟨u0, u1, u2, u3, u4⟩, ⟨v0, v1, v2, v3, v4⟩⟩ := U3.out
            go_wp2_with fail
            · have qe : p.isEmpty = true := by assumption
              rw [show (⟨#[47]⟩ : ByteArray) = bs (slashL p) from by rw [List.isEmpty_iff.mp qe]; rfl]
              clear qe
              refine (rSegments_any (bs (slashL p)) _ HPL.out).mono ?_; rintro e w4 ⟨rfl, hb4⟩; rw [bs_toList, SGQ.out]
              have U4 := box (U3.out.below hb4 U3.out.lt)
              have R4 := box (R3.out.below hb4 R3.out.lt)
              have B4 := box (B3.out.trans (hb4.mono B3.out.size))
              clear hb4 u0 u1 u2 u3 u4 v0 v1 v2 v3 v4
              obtain ⟨⟨u0, u1, u2, u3, u4⟩, ⟨v0, v1, v2, v3, v4⟩⟩ := U4.out
              go_wp2_with fail
              refine (rAuthority_any a _ (by omega)).mono ?_; rintro e w5 ⟨rfl, hb5⟩
              clear u0 u1 u2 u3 u4 v0 v1 v2 v3 v4
              have U5 := box ((U4.out.setp sg).below hb5 (U4.out.setp sg).lt)
              have R5 := box ((R4.out.other (g2 := w1.heap.size) (i := 2) hGne (.string sg)).below hb5 (R4.out.other (g2 := w1.heap.size) (i := 2) hGne (.string sg)).lt)
              have B4s : Below w.heap.size w (w4.setCell ⟨w1.heap.size, 2, none⟩ (.string sg)) := B4.out.setCell (p := ⟨w1.heap.size, 2, none⟩) hGle _
              have B5 := box (B4s.trans (hb5.mono B4s.size))
              clear hb5 B4s
              rcases ha : authL a.data.toList with _ | ⟨x, n⟩
              · have HU : Box (uriL t.data.toList h.data.toList = (zeroU, 6)) := box (by rw [HP.out]; unfold partsL; rw [HQ.out, HPA.out, ha])
                clear ha
                unfold authV
                obtain ⟨⟨r0, r1, r2, r3, r4⟩, ⟨f0, f1, f2, f3, f4⟩⟩ := R5.out
                go_wp2
                (try simp only [Exit.inBlock, Exit.then])
                refine bodyPost_ret (v := uriV (zeroU, 6)) (by rw [results_cell_tmp rfl]; go_simp; rfl) rfl ⟨?_, ?_⟩
                · exact ret_uri (by rw [HU.out])
                · exact below_uset B5.out _ _ _ _ _
              · have HU : Box (uriL t.data.toList h.data.toList = ((x, n, segL (slashL p), qq, true), 0)) := box (by rw [HP.out]; unfold partsL; rw [HQ.out, HPA.out, ha, HC.out])
                clear ha
                unfold authV
                obtain ⟨⟨r0, r1, r2, r3, r4⟩, ⟨f0, f1, f2, f3, f4⟩⟩ := R5.out
                obtain ⟨⟨u0, u1, u2, u3, u4⟩, ⟨v0, v1, v2, v3, v4⟩⟩ := U5.out
                go_wp2
                (try simp only [Exit.inBlock, Exit.then])
                refine bodyPost_ret (v := .tuple #[uV (bs x) n sg (bs qq) true, .int .i64 0]) (by rw [results_cell_tmp rfl]; go_simp; rfl) rfl ⟨?_, ?_⟩
                · rw [HU.out]; unfold uriV; rw [SGQ.out]; (try rfl)
                · exact below_uset (below_ug B5.out hGle _ _) _ _ _ _ _
            · have qe : p.isEmpty = false := by assumption
              rw [show (⟨p.toArray⟩ : ByteArray) = bs (slashL p) from by unfold slashL; rw [if_neg (by intro e; rw [e] at qe; cases qe)]; rfl]
              clear qe
              refine (rSegments_any (bs (slashL p)) _ HPL.out).mono ?_; rintro e w4 ⟨rfl, hb4⟩; rw [bs_toList, SGQ.out]
              have U4 := box (U3.out.below hb4 U3.out.lt)
              have R4 := box (R3.out.below hb4 R3.out.lt)
              have B4 := box (B3.out.trans (hb4.mono B3.out.size))
              clear hb4 u0 u1 u2 u3 u4 v0 v1 v2 v3 v4
              obtain ⟨⟨u0, u1, u2, u3, u4⟩, ⟨v0, v1, v2, v3, v4⟩⟩ := U4.out
              go_wp2_with fail
              refine (rAuthority_any a _ (by omega)).mono ?_; rintro e w5 ⟨rfl, hb5⟩
              clear u0 u1 u2 u3 u4 v0 v1 v2 v3 v4
              have U5 := box ((U4.out.setp sg).below hb5 (U4.out.setp sg).lt)
              have R5 := box ((R4.out.other (g2 := w1.heap.size) (i := 2) hGne (.string sg)).below hb5 (R4.out.other (g2 := w1.heap.size) (i := 2) hGne (.string sg)).lt)
              have B4s : Below w.heap.size w (w4.setCell ⟨w1.heap.size, 2, none⟩ (.string sg)) := B4.out.setCell (p := ⟨w1.heap.size, 2, none⟩) hGle _
              have B5 := box (B4s.trans (hb5.mono B4s.size))
              clear hb5 B4s
              rcases ha : authL a.data.toList with _ | ⟨x, n⟩
              · have HU : Box (uriL t.data.toList h.data.toList = (zeroU, 6)) := box (by rw [HP.out]; unfold partsL; rw [HQ.out, HPA.out, ha])
                clear ha
                unfold authV
                obtain ⟨⟨r0, r1, r2, r3, r4⟩, ⟨f0, f1, f2, f3, f4⟩⟩ := R5.out
                go_wp2
                (try simp only [Exit.inBlock, Exit.then])
                refine bodyPost_ret (v := uriV (zeroU, 6)) (by rw [results_cell_tmp rfl]; go_simp; rfl) rfl ⟨?_, ?_⟩
                · exact ret_uri (by rw [HU.out])
                · exact below_uset B5.out _ _ _ _ _
              · have HU : Box (uriL t.data.toList h.data.toList = ((x, n, segL (slashL p), qq, true), 0)) := box (by rw [HP.out]; unfold partsL; rw [HQ.out, HPA.out, ha, HC.out])
                clear ha
                unfold authV
                obtain ⟨⟨r0, r1, r2, r3, r4⟩, ⟨f0, f1, f2, f3, f4⟩⟩ := R5.out
                obtain ⟨⟨u0, u1, u2, u3, u4⟩, ⟨v0, v1, v2, v3, v4⟩⟩ := U5.out
                go_wp2
                (try simp only [Exit.inBlock, Exit.then])
                refine bodyPost_ret (v := .tuple #[uV (bs x) n sg (bs qq) true, .int .i64 0]) (by rw [results_cell_tmp rfl]; go_simp; rfl) rfl ⟨?_, ?_⟩
                · rw [HU.out]; unfold uriV; rw [SGQ.out]; (try rfl)
                · exact below_uset (below_ug B5.out hGle _ _) _ _ _ _ _

end Go.Proofs.Ytilodlmjamaiiaa.Asc
