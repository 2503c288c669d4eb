/- The contract of the reference's DecodeChunks. -/
import Derived.Test.YthfhoacflkbhhaaChkRef2
import Derived.Test.YthfhoacflkbhhaaFieRef
set_option linter.unusedVariables false
set_option linter.unusedSimpArgs false
namespace Go.Proofs.Ythfhoacflkbhhaa.Asc
open Go.RowKit

def dcV (x : List UInt8 × Int × Int) : Value := .tuple #[.string (bs x.1), .int .i64 x.2.1, .int .i64 x.2.2]
theorem dec_bad {s : List UInt8} {f : Nat} {body l : List UInt8} {e : Int} (h : chunksF (s.length + 1) [] s = chunksF (f + 1) body l) (hc : chunkL body l = .bad e) : decodeL s = ([], 0, e) := by
  unfold decodeL decS; rw [h, chunks_bad hc]; rfl
theorem dec_last {s : List UInt8} {f : Nat} {body l r : List UInt8} (h : chunksF (s.length + 1) [] s = chunksF (f + 1) body l) (hc : chunkL body l = .last r) : decodeL s = match trailF 66 0 r with | .inl e => ([], 0, e) | .inr r2 => (body, (s.length : Int) - r2.length, 0) := by
  unfold decodeL decS; rw [h, chunks_last hc]
  simp only
  cases trailF 66 0 r <;> rfl
theorem ck_next {body l : List UInt8} {e : Int} (h : nextL l = .inl e) : chunkL body l = .bad e := by unfold chunkL; rw [h]
theorem ck_size {body l t r : List UInt8} (h : nextL l = .inr (t, r)) (hs : sizeL t = none) : chunkL body l = .bad 1 := by unfold chunkL; rw [h]; simp only [hs]
theorem ck_body {body l t r : List UInt8} {n : Nat} (h : nextL l = .inr (t, r)) (hs : sizeL t = some n) (hn : 100000 < n + body.length) : chunkL body l = .bad 5 := by unfold chunkL; rw [h]; simp only [hs]; rw [if_pos hn]
theorem ck_last {body l t r : List UInt8} (h : nextL l = .inr (t, r)) (hs : sizeL t = some 0) (hn : ¬ 100000 < 0 + body.length) : chunkL body l = .last r := by unfold chunkL; rw [h]; simp only [hs]; rw [if_neg hn]; simp
theorem ck_short {body l t r : List UInt8} {n : Nat} (h : nextL l = .inr (t, r)) (hs : sizeL t = some n) (hn : ¬ 100000 < n + body.length) (h0 : n ≠ 0) (hr : r.length < n) : chunkL body l = .bad 2 := by
  unfold chunkL; rw [h]; simp only [hs]; rw [if_neg hn, if_neg h0, if_pos hr]
theorem ck_short2 {body l t r : List UInt8} {n : Nat} (h : nextL l = .inr (t, r)) (hs : sizeL t = some n) (hn : ¬ 100000 < n + body.length) (h0 : n ≠ 0) (hr : ¬ r.length < n) (he : r.drop n = [] ∨ r.drop n = [13]) : chunkL body l = .bad 2 := by
  unfold chunkL; rw [h]; simp only [hs]; rw [if_neg hn, if_neg h0, if_neg hr, if_pos he]
theorem ck_syntax {body l t r : List UInt8} {n : Nat} (h : nextL l = .inr (t, r)) (hs : sizeL t = some n) (hn : ¬ 100000 < n + body.length) (h0 : n ≠ 0) (hr : ¬ r.length < n) (he : ¬ (r.drop n = [] ∨ r.drop n = [13])) (h2 : ¬ (r.drop n).take 2 = [13, 10]) : chunkL body l = .bad 1 := by
  unfold chunkL; rw [h]; simp only [hs]; rw [if_neg hn, if_neg h0, if_neg hr, if_neg he, if_neg h2]
theorem ck_data {body l t r : List UInt8} {n : Nat} (h : nextL l = .inr (t, r)) (hs : sizeL t = some n) (hn : ¬ 100000 < n + body.length) (h0 : n ≠ 0) (hr : ¬ r.length < n) (he : ¬ (r.drop n = [] ∨ r.drop n = [13])) (h2 : (r.drop n).take 2 = [13, 10]) : chunkL body l = .data (r.take n) (r.drop (n + 2)) := by
  unfold chunkL; rw [h]; simp only [hs]; rw [if_neg hn, if_neg h0, if_neg hr, if_neg he, if_pos h2]
theorem rNext_is {s : ByteArray} {f : Nat} {o : Int ⊕ (List UInt8 × List UInt8)} {w : World} (hs : s.size ≤ 4000000) (hf : f ≤ s.size) (h : Box (nextL (s.data.toList.drop f) = o)) :
    Calls Try.prog 22 #[.string s, .int .i64 f] w fun e w' => e = .returned (nlV s.size o) ∧ w = w' :=
  (rNextLine_any s f w hs hf).mono fun e w' ⟨h1, h2⟩ => ⟨by rw [h1, h.out], h2⟩
theorem rNext_ok {s : ByteArray} {f nx : Nat} {t : List UInt8} {w : World} (hs : s.size ≤ 4000000) (hf : f ≤ s.size) (hn : nx ≤ s.size) (h : Box (nextL (s.data.toList.drop f) = .inr (t, s.data.toList.drop nx))) :
    Calls Try.prog 22 #[.string s, .int .i64 f] w fun e w' => e = .returned (.tuple #[.string (bs t), .int .i64 nx, .int .i64 0]) ∧ w = w' :=
  (rNextLine_any s f w hs hf).mono fun e w' ⟨h1, h2⟩ => ⟨by
    rw [h1, h.out]
    unfold nlV
    simp only [List.length_drop]
    have hz : s.data.toList.length = s.size := by simp
    rw [hz]
    have : (s.size : Int) - ((s.size - nx : Nat) : Int) = (nx : Int) := by omega
    rw [this], h2⟩
theorem rsize_is {t : List UInt8} {o : Option Nat} {w : World} (hs : t.length ≤ 2000) (h : Box (sizeL t = o)) :
    Calls Try.prog 23 #[.string (bs t)] w fun e w' => e = .returned (szV o) ∧ w = w' :=
  (rsize_any (bs t) w (by rw [bs_size]; omega)).mono fun e w' ⟨h1, h2⟩ => ⟨by rw [h1, bs_toList, h.out], h2⟩
theorem err_size {e : Int} {l : List UInt8} (h : nextL l = .inl e) : e = 1 ∨ e = 2 ∨ e = 4 := by
  unfold nextL at h
  split at h
  · cases h; exact .inr (.inr rfl)
  · split at h
    · cases h; exact .inr (.inl rfl)
    · split at h
      · cases h; exact .inl rfl
      · cases h; exact .inr (.inl rfl)
    · split at h
      · cases h; exact .inl rfl
      · split at h
        · cases h
        · cases h; exact .inl rfl
/-- the reading of a line: where the next begins -/
theorem next_at {s : ByteArray} {f : Nat} {t r : List UInt8} (hf : f ≤ s.size) (h : nextL (s.data.toList.drop f) = .inr (t, r)) : ∃ nx, f + t.length + 2 = nx ∧ nx ≤ s.size ∧ r = s.data.toList.drop nx ∧ t.length ≤ 2000 := by
  obtain ⟨h1, h2, h3⟩ := next_line h
  have hz : s.data.toList.length = s.size := by simp
  have hl := congrArg List.length h1
  rw [List.length_drop, hz] at hl
  simp at hl
  refine ⟨_, rfl, by omega, ?_, h3⟩
  have e : (s.data.toList.drop f).drop (t.length + 2) = r := by
    rw [h1, ← List.drop_drop, List.drop_left]; rfl
  rw [← e, List.drop_drop]
  congr 1 <;> omega
theorem size_bd {t : List UInt8} {n : Nat} (h : sizeL t = some n) : n < 4294967296 := by
  unfold sizeL at h
  split at h
  · rename_i hk
    cases h
    unfold sizeOk at hk
    simp only [Bool.and_eq_true, decide_eq_true_eq] at hk
    have h1 := hexN_lt (t.takeWhile hexB) (fun c hc => List.all_eq_true.mp (List.all_takeWhile (p := hexB) (l := t)) c hc)
    exact Nat.lt_of_lt_of_le h1 (Nat.le_trans (Nat.pow_le_pow_right (by omega) hk.1.1.2) (by decide))
  · cases h
/-- how far the chunks have been read; how far the lines behind them -/
def DecRel (s : ByteArray) (w : World) (v i : Value) (wr : World) : Prop := ∃ (f p : Nat) (b : ByteArray), wr = w ∧ v = .string b ∧ i = .int .i64 p ∧ p ≤ s.size ∧ b.size ≤ 100000 ∧ s.size - p ≤ f ∧ chunksF (s.data.toList.length + 1) [] s.data.toList = chunksF (f + 1) b.data.toList (s.data.toList.drop p)
def TrailRel (s : ByteArray) (nx : Nat) (w : World) (i j : Value) (wx : World) : Prop := ∃ k q : Nat, j = .int .i64 k ∧ i = .int .i64 q ∧ k ≤ 64 ∧ q ≤ s.size ∧ trailF 66 0 (s.data.toList.drop nx) = trailF (66 - k) k (s.data.toList.drop q) ∧ Below w.heap.size w wx
set_option maxRecDepth 100000 in
set_option maxHeartbeats 4000000 in
theorem rDecode_any (s : ByteArray) (w : World) (hs : s.size ≤ 4000000) :
    Calls Try.prog 9 #[.string s] w fun e w' => e = .returned (dcV (decodeL s.data.toList)) ∧ Below w.heap.size w w' := by
  have hz : s.data.toList.length = s.size := by simp
  go_enter Try.func9, Try.ntmps9
  go_wp2
  go_loopw [5, 6] (fun v i wr => DecRel s w v i wr) (fun _ i _ => s.size - (intOf i).toNat)
  case atStart => exact ⟨s.size, 0, ⟨#[]⟩, rfl, rfl, rfl, Nat.zero_le _, by decide, by omega, by rw [hz, List.drop_zero]⟩
  case round =>
    obtain ⟨f, p, b, rfl, rfl, rfl, hp, hb, hf, hC⟩ := hrel
    have HC := box hC
    clear hC
    have hbl : b.data.toList.length = b.size := by simp
    rcases hn : nextL (s.data.toList.drop p) with e | ⟨t, r⟩
    · have HN := box hn
      have HE : Box (decodeL s.data.toList = ([], 0, e)) := box (dec_bad HC.out (ck_next hn))
      have he := err_size hn
      clear hn
      rcases he with rfl | rfl | rfl
      all_goals
        go_wp2_with fail
        refine (rNext_is hs hp HN).mono ?_; rintro e w1 ⟨rfl, rfl⟩; unfold nlV
        go_wp2
        go_ret3
        exact ⟨by rw [HE.out]; rfl, Below.refl _ _⟩
    · obtain ⟨nx, hnx, hns, rfl, htl⟩ := next_at hp hn
      have HN := box hn
      rcases hsz : sizeL t with _ | n
      · have HS := box hsz
        have HE : Box (decodeL s.data.toList = ([], 0, 1)) := box (dec_bad HC.out (ck_size hn hsz))
        clear hn hsz
        go_wp2_with fail
        refine (rNext_ok hs hp hns HN).mono ?_; rintro e w1 ⟨rfl, rfl⟩
        go_wp2_with fail
        refine (rsize_is htl HS).mono ?_; rintro e w1 ⟨rfl, rfl⟩; unfold szV
        go_wp2
        go_ret3
        exact ⟨by rw [HE.out]; rfl, Below.refl _ _⟩
      · have HS := box hsz
        have hnb := size_bd hsz
        have hrl : (s.data.toList.drop nx).length = s.size - nx := by rw [List.length_drop, hz]
        by_cases h5 : 100000 < n + b.data.toList.length
        · have HE : Box (decodeL s.data.toList = ([], 0, 5)) := box (dec_bad HC.out (ck_body hn hsz h5))
          have h5i : (100000 : Int) - (b.size : Int) < (n : Int) := by omega
          clear hn hsz
          go_wp2_with fail
          refine (rNext_ok hs hp hns HN).mono ?_; rintro e w1 ⟨rfl, rfl⟩
          go_wp2_with fail
          refine (rsize_is htl HS).mono ?_; rintro e w1 ⟨rfl, rfl⟩; unfold szV
          go_wp2
          go_ret3
          exact ⟨by rw [HE.out]; rfl, Below.refl _ _⟩
        · have h5i : ¬ (100000 : Int) - (b.size : Int) < (n : Int) := by omega
          by_cases h0 : n = 0
          · subst h0
            have HL := box (dec_last HC.out (ck_last hn hsz h5))
            clear hn hsz
            go_wp2_with fail
            refine (rNext_ok hs hp hns HN).mono ?_; rintro e w1 ⟨rfl, rfl⟩
            go_wp2_with fail
            refine (rsize_is htl HS).mono ?_; rintro e w1 ⟨rfl, rfl⟩; unfold szV
            go_wp2
            go_loopw [6, 13] (fun i j wx => TrailRel s nx wr i j wx) (fun _ j _ => 65 - (intOf j).toNat)
            case atStart => exact ⟨0, nx, rfl, rfl, Nat.zero_le _, hns, rfl, Below.refl _ _⟩
            case round =>
              obtain ⟨k, q, rfl, rfl, hk, hq, hT, hbel⟩ := hrel
              have BL := box hbel
              obtain ⟨g, hg⟩ : ∃ g, 66 - k = g + 1 := ⟨65 - k, by omega⟩
              rw [hg] at hT
              have HT := box hT
              clear hbel hT
              rcases hn2 : nextL (s.data.toList.drop q) with e2 | ⟨t2, r2⟩
              · have HN2 := box hn2
                have HE : Box (decodeL s.data.toList = ([], 0, e2)) := box (by rw [HL.out, HT.out, trail_bad hn2])
                have he := err_size hn2
                clear hn2
                rcases he with rfl | rfl | rfl
                all_goals
                  go_wp2_with fail
                  refine (rNext_is hs hq HN2).mono ?_; rintro e w1 ⟨rfl, rfl⟩; unfold nlV
                  go_wp2
                  go_ret3
                  exact ⟨by rw [HE.out]; rfl, BL.out⟩
              · obtain ⟨q2, hq2, hqs, rfl, htl2⟩ := next_at hq hn2
                have HN2 := box hn2
                by_cases ht2 : t2 = []
                · subst ht2
                  have HE : Box (decodeL s.data.toList = (b.data.toList, (q2 : Int), 0)) := box (by
                    rw [HL.out, HT.out, trail_done hn2]
                    simp only [List.length_drop, hz]
                    have : (s.size : Int) - ((s.size - q2 : Nat) : Int) = (q2 : Int) := by omega
                    rw [this])
                  clear hn2
                  go_wp2_with fail
                  refine (rNext_ok hs hq hqs HN2).mono ?_; rintro e w1 ⟨rfl, rfl⟩
                  rw [show bs ([] : List UInt8) = (⟨#[]⟩ : ByteArray) from rfl]
                  go_wp2
                  go_ret3
                  exact ⟨by rw [HE.out]; rfl, BL.out⟩
                · have hte : (bs t2).toList.isEmpty = false := by
                    rw [toList_data, bs_toList]
                    cases t2 with
                    | nil => exact absurd rfl ht2
                    | cons _ _ => rfl
                  by_cases hk64 : k = 64
                  · subst hk64
                    have HE : Box (decodeL s.data.toList = ([], 0, 4)) := box (by rw [HL.out, HT.out, trail_many hn2 ht2])
                    clear hn2 ht2
                    go_wp2_with fail
                    refine (rNext_ok hs hq hqs HN2).mono ?_; rintro e w1 ⟨rfl, rfl⟩
                    go_wp2
                    go_ret3
                    exact ⟨by rw [HE.out]; rfl, BL.out⟩
                  · have hki : ((k : Int) == 64) = false := by rw [beq_eq_false_iff_ne]; omega
                    have HZ2 : Box ((bs t2).size ≤ maxLen) := box (by rw [bs_size]; unfold maxLen; omega)
                    obtain ⟨a1, a2, e2, hfl⟩ : ∃ a1 a2 e2, fieldL t2 = (a1, a2, e2) := ⟨_, _, _, rfl⟩
                    have HFV : Box (fieldV (fieldL (bs t2).data.toList) = .tuple #[.agg #[.string (bs a1), .string (bs a2)], .int .i64 e2]) := box (by rw [bs_toList, hfl]; rfl)
                    rcases he2 : ((e2 : Int) != 0) with _ | _
                    · have he20 : e2 = 0 := by simpa using he2
                      have HNX := box (HT.out.trans (trail_next hn2 ht2 hk64 (by rw [hfl]; exact he20)))
                      clear hn2 ht2 hfl he20
                      go_wp2_with fail
                      refine (rNext_ok hs hq hqs HN2).mono ?_; rintro e w1 ⟨rfl, rfl⟩
                      go_wp2_with fail
                      refine (rParseField_any (bs t2) _ HZ2.out).mono ?_; rintro e w2 ⟨rfl, hb2⟩; rw [HFV.out]
                      have B2 := box (BL.out.trans (hb2.mono BL.out.size))
                      clear hb2
                      go_wp2
                      go_roundw
                      case rel => exact ⟨k + 1, q2, by go_num, rfl, by omega, hqs, by rw [show 66 - (k + 1) = g from by omega]; exact HNX.out, B2.out.alloc B2.out.size _⟩
                      case measure => simp [intOf]; omega
                    · have he20 : e2 ≠ 0 := by simpa using he2
                      have HE : Box (decodeL s.data.toList = ([], 0, e2)) := box (by rw [HL.out, HT.out, trail_field hn2 ht2 hk64 (by rw [hfl]; exact he20), hfl])
                      clear hn2 ht2 hfl he20
                      go_wp2_with fail
                      refine (rNext_ok hs hq hqs HN2).mono ?_; rintro e w1 ⟨rfl, rfl⟩
                      go_wp2_with fail
                      refine (rParseField_any (bs t2) _ HZ2.out).mono ?_; rintro e w2 ⟨rfl, hb2⟩; rw [HFV.out]
                      have B2 := box (BL.out.trans (hb2.mono BL.out.size))
                      clear hb2
                      go_wp2
                      go_ret3
                      exact ⟨by rw [HE.out]; rfl, B2.out.alloc B2.out.size _⟩
          · have h0i : ((n : Int) == 0) = false := by rw [beq_eq_false_iff_ne]; omega
            by_cases hr : (s.data.toList.drop nx).length < n
            · have HE : Box (decodeL s.data.toList = ([], 0, 2)) := box (dec_bad HC.out (ck_short hn hsz h5 h0 hr))
              have hri : (s.size : Int) - (nx : Int) < (n : Int) := by omega
              clear hn hsz
              go_wp2_with fail
              refine (rNext_ok hs hp hns HN).mono ?_; rintro e w1 ⟨rfl, rfl⟩
              go_wp2_with fail
              refine (rsize_is htl HS).mono ?_; rintro e w1 ⟨rfl, rfl⟩; unfold szV
              go_wp2
              go_ret3
              exact ⟨by rw [HE.out]; rfl, Below.refl _ _⟩
            · have hri : ¬ (s.size : Int) - (nx : Int) < (n : Int) := by omega
              have hXl : (s.extract (nx + n) s.size).data.toList = (s.data.toList.drop nx).drop n := by
                rw [ext_bs, List.take_of_length_le (by simp), List.drop_drop]; rfl
              have hXz : (s.extract (nx + n) s.size).data.toList.length = s.size - (nx + n) := by
                rw [hXl, List.length_drop, hrl]; omega
              have hl1 : (nx : Int) ≤ (nx : Int) + (n : Int) := by omega
              have hl2 : (nx : Int) + (n : Int) ≤ (s.size : Int) := by omega
              have hl0 : (0 : Int) ≤ (nx : Int) + (n : Int) := by omega
              rcases h1 : (s.extract (nx + n) s.size).toList.isEmpty with _ | _
              · have hEne : (s.extract (nx + n) s.size).data.toList ≠ [] := by rw [toList_data] at h1; intro e; rw [e] at h1; cases h1
                have h1b : ¬ (s.extract (nx + n) s.size).toList = [] := by rw [toList_data]; exact hEne
                rcases h2 : ((s.extract (nx + n) s.size).toList == [13]) with _ | _
                · have hE13 : (s.extract (nx + n) s.size).data.toList ≠ [13] := by rw [toList_data] at h2; simpa using h2
                  by_cases h3 : s.size - (nx + n) < 2
                  · have h3i : ((s.size - (nx + n) : Nat) : Int) < 2 := by omega
                    have HE : Box (decodeL s.data.toList = ([], 0, 1)) := box (dec_bad HC.out (ck_syntax hn hsz h5 h0 hr (by rw [← hXl]; exact fun e => e.elim hEne hE13) (by
                      rw [← hXl]
                      intro e
                      have := congrArg List.length e
                      rw [List.length_take, hXz] at this
                      simp at this; omega)))
                    clear hn hsz hXl hXz hEne hE13
                    go_wp2_with fail
                    refine (rNext_ok hs hp hns HN).mono ?_; rintro e w1 ⟨rfl, rfl⟩
                    go_wp2_with fail
                    refine (rsize_is htl HS).mono ?_; rintro e w1 ⟨rfl, rfl⟩; unfold szV
                    go_wp2
                    go_ret3
                    exact ⟨by rw [HE.out]; rfl, Below.refl _ _⟩
                  · have h3i : ¬ ((s.size - (nx + n) : Nat) : Int) < 2 := by omega
                    have h3j : (2 : Int) ≤ ((s.size - (nx + n) : Nat) : Int) := by omega
                    have hx2 : ((s.extract (nx + n) s.size).extract 0 2).data.toList = ((s.data.toList.drop nx).drop n).take 2 := by rw [ext_bs, hXl, List.drop_zero]; rfl
                    rcases h4 : (((s.extract (nx + n) s.size).extract 0 2).toList == [13, 10]) with _ | _
                    · have h42 : ¬ ((s.data.toList.drop nx).drop n).take 2 = [13, 10] := by rw [toList_data, hx2] at h4; simpa using h4
                      have HE : Box (decodeL s.data.toList = ([], 0, 1)) := box (dec_bad HC.out (ck_syntax hn hsz h5 h0 hr (by rw [← hXl]; exact fun e => e.elim hEne hE13) h42))
                      clear hn hsz hXl hXz hEne hE13 h42 hx2
                      go_wp2_with fail
                      refine (rNext_ok hs hp hns HN).mono ?_; rintro e w1 ⟨rfl, rfl⟩
                      go_wp2_with fail
                      refine (rsize_is htl HS).mono ?_; rintro e w1 ⟨rfl, rfl⟩; unfold szV
                      go_wp2
                      go_ret3
                      exact ⟨by rw [HE.out]; rfl, Below.refl _ _⟩
                    · have h42 : ((s.data.toList.drop nx).drop n).take 2 = [13, 10] := by rw [toList_data, hx2] at h4; simpa using h4
                      obtain ⟨f', rfl⟩ : ∃ f', f = f' + 1 := ⟨f - 1, by omega⟩
                      have HB : Box ((b ++ s.extract nx (nx + n)).data.toList = b.data.toList ++ (s.data.toList.drop nx).take n) := box (by
                        have e1 : (s.extract nx (nx + n)).data.toList = (s.data.toList.drop nx).take n := by rw [ext_bs, bs_toList, List.drop_take, Nat.add_sub_cancel_left]
                        rw [← e1]; simp [ByteArray.data_append])
                      have HDR : Box (s.data.toList.drop (nx + n + 2) = (s.data.toList.drop nx).drop (n + 2)) := box (by rw [List.drop_drop, Nat.add_assoc])
                      have hn2 : nx + n + 2 ≤ s.size := by omega
                      have HD := box (HC.out.trans (chunks_data (ck_data hn hsz h5 h0 hr (by rw [← hXl]; exact fun e => e.elim hEne hE13) h42)))
                      have hlb : b.size ≤ 100000 := hb
                      clear hn hsz hXl hXz hEne hE13 h42 hx2
                      go_wp2_with fail
                      refine (rNext_ok hs hp hns HN).mono ?_; rintro e w1 ⟨rfl, rfl⟩
                      go_wp2_with fail
                      refine (rsize_is htl HS).mono ?_; rintro e w1 ⟨rfl, rfl⟩; unfold szV
                      go_wp2
                      go_roundw
                      case rel => exact ⟨f', nx + n + 2, _, rfl, rfl, by go_num, by omega, by rw [ByteArray.size_append, ByteArray.size_extract]; omega, by omega, by rw [HB.out, HDR.out]; exact HD.out⟩
                      case measure => simp [intOf]; omega
                · have hE13 : (s.extract (nx + n) s.size).data.toList = [13] := by rw [toList_data] at h2; simpa using h2
                  have HE : Box (decodeL s.data.toList = ([], 0, 2)) := box (dec_bad HC.out (ck_short2 hn hsz h5 h0 hr (.inr (by rw [← hXl]; exact hE13))))
                  clear hn hsz hXl hXz hEne hE13
                  go_wp2_with fail
                  refine (rNext_ok hs hp hns HN).mono ?_; rintro e w1 ⟨rfl, rfl⟩
                  go_wp2_with fail
                  refine (rsize_is htl HS).mono ?_; rintro e w1 ⟨rfl, rfl⟩; unfold szV
                  go_wp2
                  go_ret3
                  exact ⟨by rw [HE.out]; rfl, Below.refl _ _⟩
              · have hEe : (s.extract (nx + n) s.size).data.toList = [] := by rw [toList_data] at h1; exact List.isEmpty_iff.mp h1
                have h1b : (s.extract (nx + n) s.size).toList = [] := by rw [toList_data]; exact hEe
                have HE : Box (decodeL s.data.toList = ([], 0, 2)) := box (dec_bad HC.out (ck_short2 hn hsz h5 h0 hr (.inl (by rw [← hXl]; exact hEe))))
                clear hn hsz hXl hXz hEe
                go_wp2_with fail
                refine (rNext_ok hs hp hns HN).mono ?_; rintro e w1 ⟨rfl, rfl⟩
                go_wp2_with fail
                refine (rsize_is htl HS).mono ?_; rintro e w1 ⟨rfl, rfl⟩; unfold szV
                go_wp2
                go_ret3
                exact ⟨by rw [HE.out]; rfl, Below.refl _ _⟩

end Go.Proofs.Ythfhoacflkbhhaa.Asc
