/- Plain functions: what has been cut off is too short; extensions, leading zeros and fields behind the content. No program is named here. -/
import Derived.Test.YthfhoacflkbhhaaChkSpec
set_option linter.unusedVariables false
set_option linter.unusedSimpArgs false
namespace Go.Proofs.Ythfhoacflkbhhaa.Asc

/-- what is read ends too early: in a chunk, or behind the content -/
def ShortS (f : Nat) (body l : List UInt8) : Prop := chunksF f body l = .inl 2 ∨ ∃ b r, chunksF f body l = .inr (b, r) ∧ nextL r = .inl 2
theorem short_dec {f : Nat} {body l : List UInt8} (h : ShortS f body l) : decS f body l = .inl 2 := by
  unfold decS
  rcases h with h | ⟨b, r, h, h2⟩
  · rw [h]
  · rw [h]
    simp only [trail_bad h2]
theorem chunk_short {body l : List UInt8} (h : nextL l = .inl 2) : chunkL body l = .bad 2 := by unfold chunkL; rw [h]
theorem short_next {f : Nat} {body l : List UInt8} (h : nextL l = .inl 2) : ShortS (f + 1) body l := .inl (chunks_bad (chunk_short h))
theorem pre_cases {p a b : List UInt8} (h : p <+: a ++ b) : (p <+: a ∧ p.length < a.length) ∨ ∃ q, p = a ++ q ∧ q <+: b := by
  by_cases hl : p.length < a.length
  · left
    refine ⟨?_, hl⟩
    exact List.prefix_of_prefix_length_le h (List.prefix_append a b) (by omega)
  · right
    have ha : a <+: p := List.prefix_of_prefix_length_le (List.prefix_append a b) h (by omega)
    obtain ⟨q, rfl⟩ := ha
    exact ⟨q, rfl, (List.prefix_append_right_inj a).mp h⟩
theorem pre_two2 {p b : List UInt8} (h : p <+: 13 :: 10 :: b) : p = [] ∨ p = [13] ∨ ∃ q, p = 13 :: 10 :: q ∧ q <+: b := by
  match p, h with
  | [], _ => exact .inl rfl
  | [c], h =>
    rw [List.cons_prefix_cons] at h
    exact .inr (.inl (by rw [h.1]))
  | c :: d :: q, h =>
    rw [List.cons_prefix_cons, List.cons_prefix_cons] at h
    exact .inr (.inr ⟨q, by rw [h.1, h.2.1], h.2.2⟩)
theorem pre_all {p a : List UInt8} {P : UInt8 → Prop} (h : p <+: a) (ha : ∀ c ∈ a, P c) : ∀ c ∈ p, P c := fun c hc => ha c (h.subset hc)
/-- the end, cut off -/
theorem end_short {p body : List UInt8} (f : Nat) (hb : body.length ≤ 100000) (h : p <+: endT) (hl : p.length < endT.length) : ShortS (f + 1) body p := by
  have hq := h
  rw [List.prefix_iff_eq_take] at hq
  have h5 : p.length = 0 ∨ p.length = 1 ∨ p.length = 2 ∨ p.length = 3 ∨ p.length = 4 := by
    have : endT.length = 5 := rfl
    omega
  rcases h5 with e | e | e | e | e <;> rw [e] at hq
  · exact short_next (by rw [hq]; exact next_short (t := []) (by simp) (by simp))
  · exact short_next (by rw [hq]; exact next_short (t := [48]) (by decide) (by decide))
  · exact short_next (by rw [hq]; exact next_cr (t := [48]) (by decide) (by decide))
  · refine .inr ⟨body, [], ?_, next_short (t := []) (by simp) (by simp)⟩
    rw [hq]; exact chunks_last (chunk_end body [] hb)
  · refine .inr ⟨body, [13], ?_, next_cr (t := []) (by simp) (by simp)⟩
    rw [hq]; exact chunks_last (chunk_end body [13] hb)
/-- a chunk, cut off -/
theorem chunk_cut {p d more body : List UInt8} (h0 : 0 < d.length) (hb : d.length + body.length ≤ 100000) (h : p <+: chunkT d ++ more) : chunkL body p = .bad 2 ∨ ∃ q, p = chunkT d ++ q ∧ q <+: more := by
  obtain ⟨h1, h2, h3, h4⟩ := hexL_facts h0 5 (Nat.lt_of_lt_of_le (by omega : d.length < 1048576) (by decide))
  have he : ∀ c ∈ hexL d.length, eolB c = true := fun c hc => hex_eol (h1 c hc)
  rw [chunkT_app] at h
  rcases pre_cases h with ⟨hp, hl⟩ | ⟨q, rfl, hq⟩
  · exact .inl (chunk_short (next_short (pre_all hp he) (by omega)))
  · rcases pre_two2 hq with rfl | rfl | ⟨q2, rfl, hq2⟩
    · rw [List.append_nil]; exact .inl (chunk_short (next_short he (by omega)))
    · exact .inl (chunk_short (next_cr he (by omega)))
    · have hn := next_ok (t := hexL d.length) (r := q2) he (by omega)
      have hs : sizeL (hexL d.length) = some d.length := by rw [size_plain h1 h3 (by omega), h2]
      rcases pre_cases hq2 with ⟨hp, hl⟩ | ⟨q3, rfl, hq3⟩
      · left
        unfold chunkL; rw [hn]; simp only [hs]
        rw [if_neg (by omega), if_neg (by omega), if_pos hl]
      · have hdr : (d ++ q3).drop d.length = q3 := by simp
        rcases pre_two2 hq3 with rfl | rfl | ⟨q4, rfl, hq4⟩
        · left
          unfold chunkL; rw [hn]; simp only [hs]
          rw [if_neg (by omega), if_neg (by omega), if_neg (by simp), hdr, if_pos (.inl rfl)]
        · left
          unfold chunkL; rw [hn]; simp only [hs]
          rw [if_neg (by omega), if_neg (by omega), if_neg (by simp), hdr, if_pos (.inr rfl)]
        · right
          exact ⟨q4, by rw [chunkT_app], hq4⟩
theorem chunks_short : ∀ (g z : Nat) (b body p : List UInt8) (f : Nat), 1 ≤ z → b.length ≤ g → b.length + body.length ≤ 100000 → p <+: encF g z b ++ endT → p.length < (encF g z b ++ endT).length → p.length < f → ShortS f body p
  | 0, z, b, body, p, f, hz, hg, hb, hp, hl, hf => by
    match f, hf with
    | f + 1, _ =>
      have e : encF 0 z b = [] := rfl
      rw [e, List.nil_append] at hp hl
      exact end_short f (by omega) hp hl
  | g + 1, z, b, body, p, f, hz, hg, hb, hp, hl, hf => by
    match f, hf with
    | f + 1, hf =>
      by_cases hbn : b = []
      · subst hbn
        have e0 : encF (g + 1) z ([] : List UInt8) = [] := by unfold encF; rw [if_pos rfl]
        rw [e0, List.nil_append] at hp hl
        exact end_short f (by omega) hp hl
      · have hpos : 0 < b.length := List.length_pos_iff.mpr hbn
        have e1 : encF (g + 1) z b = chunkT (b.take (min z b.length)) ++ encF g z (b.drop (min z b.length)) := by
          conv => lhs; unfold encF
          rw [if_neg hbn]
        have hll : (b.take (min z b.length)).length = min z b.length := by rw [List.length_take]; omega
        rw [e1, List.append_assoc] at hp hl
        rcases chunk_cut (body := body) (by omega) (by omega) hp with h | ⟨q, rfl, hq⟩
        · exact .inl (chunks_bad h)
        · have hc := chunkT_read (body := body) (d := b.take (min z b.length)) (more := q) (by omega) (by omega)
          have hpc := chunkT_pos (b.take (min z b.length))
          have ih := chunks_short g z (b.drop (min z b.length)) (body ++ b.take (min z b.length)) q f hz (by rw [List.length_drop]; omega) (by rw [List.length_append, List.length_drop, hll]; omega) hq (by rw [List.length_append] at hl; rw [List.length_append] at hl; omega) (by rw [List.length_append] at hf; omega)
          unfold ShortS at ih ⊢
          rw [chunks_data hc]; exact ih
/-- every proper beginning of what is written is too short -/
theorem decode_short {b : List UInt8} {z : Int} {k : Nat} (hb : b.length ≤ 100000) (hk : k < (encodeL b z).length) : decodeL ((encodeL b z).take k) = ([], 0, 2) := by
  have hpre : (encodeL b z).take k <+: encodeL b z := List.take_prefix _ _
  have hlen : ((encodeL b z).take k).length = k := by rw [List.length_take]; omega
  unfold decodeL
  rw [short_dec (l := (encodeL b z).take k) ?_]
  · rfl
  · by_cases hbn : b = []
    · subst hbn
      have e0 : encodeL ([] : List UInt8) z = endT := rfl
      rw [e0] at hk hpre hlen ⊢
      exact end_short _ (by simp) hpre (by omega)
    · have hpos : 0 < b.length := List.length_pos_iff.mpr hbn
      refine chunks_short b.length (if z < 1 then b.length else z.toNat) b [] _ _ ?_ (Nat.le_refl _) (by simpa using hb) hpre ?_ (by omega)
      · split <;> omega
      · rw [hlen]; exact hk
theorem zeros_hex {z d : List UInt8} (hz : ∀ c ∈ z, c = 48) (hd : ∀ c ∈ d, hexB c = true) : (∀ c ∈ z ++ d, hexB c = true) ∧ hexN (z ++ d) = hexN d := by
  refine ⟨fun c hc => ?_, ?_⟩
  · rcases List.mem_append.mp hc with e | e
    · rw [hz c e]; decide
    · exact hd c e
  · have h0 : ∀ l : List UInt8, (∀ c ∈ l, c = 48) → hexN l = 0 := by
      intro l
      induction l with
      | nil => intro _; rfl
      | cons c l ih =>
        intro h
        have e := hexN_app [c] l
        have hc : c = 48 := h c (by simp)
        rw [ih (fun x hx => h x (by simp [hx])), hc] at e
        have e1 : hexN [48] = 0 := by decide
        rw [e1] at e
        rw [hc, show (48 : UInt8) :: l = [48] ++ l from rfl, e]; simp
    rw [hexN_app, h0 z hz]; simp
/-- with an extension at each size, leading zeros, and a field behind the content -/
def detailL (z b x n v : List UInt8) : List UInt8 := z ++ hexL b.length ++ 59 :: x ++ 13 :: 10 :: (b ++ 13 :: 10 :: ([48, 48] ++ 59 :: x ++ 13 :: 10 :: (fmtFL n v ++ [13, 10, 13, 10])))
theorem line_eol {n v : List UInt8} (h : validL n v = true) : (∀ c ∈ lineL n v, eolB c = true) ∧ lineL n v ≠ [] := by
  obtain ⟨h1, h2, h3, h4⟩ := valid_parts h
  have hn : ∀ c ∈ n, eolB c = true := by
    unfold tokL at h1
    simp only [Bool.and_eq_true] at h1
    intro c hc
    have q := List.all_eq_true.mp h1.2 c hc
    have key : ∀ x : Fin 256, tokI (x.1 : Nat) = true → eolB (UInt8.ofNat x.1) = true := by decide +kernel
    have := key ⟨c.toNat, c.toNat_lt⟩ q
    simpa using this
  have hv : ∀ c ∈ v, eolB c = true := by
    intro c hc
    exact text_eol (List.all_eq_true.mp h2 c hc)
  unfold lineL
  split
  · refine ⟨fun c hc => ?_, by simp⟩
    rcases List.mem_append.mp hc with e | e
    · exact hn c e
    · simp at e; rw [e]; decide
  · refine ⟨fun c hc => ?_, by simp⟩
    rcases List.mem_append.mp hc with e | e
    · rcases List.mem_append.mp e with e | e
      · exact hn c e
      · simp at e; rcases e with e | e <;> rw [e] <;> decide
    · exact hv c e
theorem detail_read {z b x n v : List UInt8} (hz : ∀ c ∈ z, c = 48) (hzl : z.length ≤ 4) (h0 : 0 < b.length) (hb : b.length ≤ 1000) (hx : textL x = true) (hxl : x.length ≤ 100) (hv : validL n v = true) :
    decodeL (detailL z b x n v) = (b, ((detailL z b x n v).length : Int), 0) := by
  obtain ⟨h1, h2, h3, h4⟩ := hexL_facts h0 3 (Nat.lt_of_lt_of_le (by omega : b.length < 4096) (by decide))
  obtain ⟨g1, g2⟩ := zeros_hex hz h1
  have hxe : ∀ c ∈ x, eolB c = true := fun c hc => text_eol (List.all_eq_true.mp hx c hc)
  have ht : ∀ (d : List UInt8), (∀ c ∈ d, hexB c = true) → ∀ c ∈ d ++ 59 :: x, eolB c = true := by
    intro d hd c hc
    rcases List.mem_append.mp hc with e | e
    · exact hex_eol (hd c e)
    · rcases List.mem_cons.mp e with e | e
      · rw [e]; decide
      · exact hxe c e
  have hf : fmtFL n v = lineL n v := by unfold fmtFL; rw [if_pos hv]
  obtain ⟨l1, l2⟩ := line_eol hv
  have hll : (lineL n v).length ≤ 2000 := by
    rw [lineN_eq]; exact (valid_parts hv).2.2.2
  have e0 : detailL z b x n v = (z ++ hexL b.length ++ 59 :: x) ++ 13 :: 10 :: (b ++ 13 :: 10 :: (([48, 48] ++ 59 :: x) ++ 13 :: 10 :: (lineL n v ++ 13 :: 10 :: [13, 10]))) := by
    unfold detailL; rw [hf] <;> simp
  have c1 := chunk_data (body := []) (d := b) (more := ([48, 48] ++ 59 :: x) ++ 13 :: 10 :: (lineL n v ++ 13 :: 10 :: [13, 10])) (t := z ++ hexL b.length ++ 59 :: x) (ht _ g1) (by simp; omega) (by rw [size_line g1 (by simp; omega) (by simp; omega) hx, g2, h2]) h0 (by simp; omega)
  have c2 : chunkL b (([48, 48] ++ 59 :: x) ++ 13 :: 10 :: (lineL n v ++ 13 :: 10 :: [13, 10])) = .last (lineL n v ++ 13 :: 10 :: [13, 10]) := by
    have hn := next_ok (t := [48, 48] ++ 59 :: x) (r := lineL n v ++ 13 :: 10 :: [13, 10]) (ht _ (by decide)) (by simp; omega)
    have hs : sizeL ([48, 48] ++ 59 :: x) = some 0 := by
      rw [size_line (by decide) (by decide) (by decide) hx] <;> rfl
    unfold chunkL
    rw [hn]; simp only [hs]
    rw [if_neg (by omega)]; simp
  unfold decodeL decS
  rw [e0]
  have hfuel : ∃ f, ((z ++ hexL b.length ++ 59 :: x) ++ 13 :: 10 :: (b ++ 13 :: 10 :: (([48, 48] ++ 59 :: x) ++ 13 :: 10 :: (lineL n v ++ 13 :: 10 :: [13, 10])))).length = f + 1 := ⟨_, by rw [List.length_append, List.length_cons]; rfl⟩
  obtain ⟨f, hfu⟩ := hfuel
  rw [hfu, chunks_data c1, List.nil_append, chunks_last c2]
  simp only
  have n1 := next_ok (t := lineL n v) (r := [13, 10]) l1 hll
  have fb := field_back hv
  rw [trail_next n1 l2 (by omega) (by rw [fb])]
  rw [show ([13, 10] : List UInt8) = 13 :: 10 :: [] from rfl, trail_end]
  simp only [decT]
  simp

end Go.Proofs.Ythfhoacflkbhhaa.Asc
