/- What the plain functions of layer 1 have to do with each other. No program is named here. -/
import Derived.Test.YtlcojfkkeommoaaAscSpec2
set_option linter.unusedVariables false
set_option maxRecDepth 100000
namespace Go.Proofs.Ytlcojfkkeommoaa.Asc

/-! quoting and unquoting -/
theorem unesc_esc (l : List UInt8) : unescL (escL l) = some l := by
  induction l with
  | nil => rfl
  | cons c l ih =>
    simp only [escL, List.flatMap_cons] at ih ⊢
    by_cases h : c = 34 ∨ c = 92
    · rw [escB, if_pos h]
      show unescL (92 :: c :: List.flatMap escB l) = _
      rw [unescL_b, ih]; rfl
    · rw [escB, if_neg h]
      show unescL (c :: List.flatMap escB l) = _
      rw [unescL_o c _ (fun e => h (.inl e)) (fun e => h (.inr e)), ih]; rfl
theorem text_esc (l : List UInt8) : textL (escL l) = textL l := by
  induction l with
  | nil => rfl
  | cons c l ih =>
    have h1 : textL (escL (c :: l)) = (textL (escB c) && textL (escL l)) := by simp [textL, allI, escL]
    have h2 : textL (c :: l) = (textI c.toNat && textL l) := by simp [textL, allI]
    have h3 : textL (escB c) = textI c.toNat := by
      unfold escB; split
      · have : textI ((92 : UInt8).toNat : Int) = true := by decide
        simp only [textL, allI, List.all_cons, List.all_nil, this, Bool.true_and, Bool.and_true]
      · simp [textL, allI]
    rw [h1, h2, h3, ih]
theorem unq_quote (l : List UInt8) : unqL (quoteL l) = unqIn (escL l) := by
  have hl : (quoteL l).length = (escL l).length + 2 := by simp [quoteL]
  have h0 : (quoteL l).getD 0 0 = 34 := by simp [quoteL]
  have h1 : (quoteL l).getD ((quoteL l).length - 1) 0 = 34 := by
    rw [hl]; simp [quoteL, List.getD_eq_getElem?_getD]
  have h2 : ((quoteL l).take ((quoteL l).length - 1)).drop 1 = escL l := by
    rw [hl]; simp [quoteL]
  unfold unqL
  rw [if_neg (by rw [hl, h0]; rintro (h | h | h); omega; exact h rfl; rw [← hl] at h; exact h h1), h2]
theorem unq_quote_text {l : List UInt8} (h : textL l = true) : unqL (quoteL l) = some l := by
  rw [unq_quote, unqIn_text (by rw [text_esc]; exact h), unesc_esc]
theorem unq_quote_not {l : List UInt8} (h : textL l = false) : unqL (quoteL l) = none := by
  rw [unq_quote, unqIn_not (by rw [text_esc]; exact h)]

/-! numbers in decimal -/
def valF (v : Int) (l : List UInt8) : Int := l.foldl (fun v c => v * 10 + ((c.toNat : Int) - 48)) v
theorem sat_min (v d : Int) (h0 : 0 ≤ v) (h1 : 0 ≤ d) : satI (min v 2147483647) d = min (v * 10 + d) 2147483647 := by
  unfold satI; split <;> omega
theorem numF_val (l : List UInt8) (h : allI digitI l = true) : ∀ v : Int, 0 ≤ v → l.foldl (fun v c => satI v ((c.toNat : Int) - 48)) (min v 2147483647) = min (valF v l) 2147483647 := by
  induction l with
  | nil => intro v _; rfl
  | cons c l ih =>
    intro v hv
    have hc : digitI c.toNat = true ∧ allI digitI l = true := by simpa [allI] using h
    have hd := digitI_bd hc.1
    simp only [List.foldl_cons, valF]
    rw [sat_min v _ hv (by omega)]
    exact ih hc.2 _ (by omega)
theorem numF_eq (l : List UInt8) (h : allI digitI l = true) : numF l = min (valF 0 l) 2147483647 := numF_val l h 0 (Int.le_refl _)
theorem dig_digit (m : Nat) : digitI (digB m).toNat = true := by
  rw [dig_toNat]; simp [digitI]; omega
theorem decF_digits : ∀ f m acc, allI digitI acc = true → allI digitI (decF f m acc) = true
  | 0, m, acc, h => h
  | f + 1, m, acc, h => by
    have h' : allI digitI (digB m :: acc) = true := by simp only [allI, List.all_cons, dig_digit, Bool.true_and]; exact h
    unfold decF; split
    · exact h'
    · exact decF_digits f _ _ h'
theorem decF_val : ∀ f m acc, m < 10 ^ (f + 1) → valF 0 (decF (f + 1) m acc) = valF (m : Int) acc
  | 0, m, acc, h => by
    unfold decF
    rw [if_pos (by omega)]
    simp only [valF, List.foldl_cons, dig_toNat]
    congr 1; omega
  | f + 1, m, acc, h => by
    unfold decF; split
    · simp only [valF, List.foldl_cons, dig_toNat]
      congr 1; omega
    · rw [decF_val f (m / 10) _ (by rw [Nat.pow_succ] at h; omega)]
      simp only [valF, List.foldl_cons, dig_toNat]
      congr 1; omega
theorem decF_ne : ∀ f m acc, decF (f + 1) m acc ≠ []
  | 0, m, acc => by unfold decF; split <;> simp [decF]
  | f + 1, m, acc => by
    unfold decF; split
    · simp
    · exact decF_ne f _ _
theorem num_dec {n : Int} (h0 : 0 ≤ n) (h1 : n ≤ 9223372036854775807) : numL (decL n) = some (min n 2147483647) := by
  have hd : allI digitI (decL n) = true := by rw [decL, if_neg (by omega)]; exact decF_digits _ _ _ rfl
  have hv : valF 0 (decL n) = n := by
    rw [decL, if_neg (by omega), decF_val 19 n.natAbs [] (by omega)]; simp [valF]; omega
  have hne : decL n ≠ [] := by rw [decL, if_neg (by omega)]; exact decF_ne 19 _ _
  unfold numL; rw [if_pos ⟨hd, hne⟩, numF_eq _ hd, hv]
theorem num_neg {n : Int} (h0 : n < 0) : numL (decL n) = none := by
  unfold numL; rw [if_neg]; rintro ⟨h, _⟩
  rw [decL, if_pos h0] at h
  simp [allI] at h
  exact absurd h.1 (by decide)

/-! trimming twice -/
theorem trim_split (l : List UInt8) : ∃ a b, l = a ++ (trimL l ++ b) ∧ (∀ c ∈ a, blankB c = true) ∧ (∀ c ∈ b, blankB c = true) ∧ (∀ c r, trimL l = c :: r → blankB c = false) ∧ (∀ c r, trimL l = r ++ [c] → blankB c = false) := by
  obtain ⟨k, e, ht⟩ := ex_trim l
  have hT := trim_at ht
  obtain ⟨h1, h2, h3, h4, h5, h6⟩ := ht
  have hlen : (trimL l).length = e - k := by rw [hT]; simp only [List.length_drop, List.length_take]; omega
  have hm : ∀ j, j < e - k → (trimL l).getD j 0 = l.getD (k + j) 0 := by
    intro j hj
    rw [hT]
    simp only [List.getD_eq_getElem?_getD, List.getElem?_drop]
    rw [List.getElem?_take_of_lt (by omega)]
  refine ⟨l.take k, l.drop e, ?_, ?_, ?_, ?_, ?_⟩
  · have e1 : (l.take e).take k = l.take k := by rw [List.take_take, Nat.min_eq_left h1]
    rw [hT, ← List.append_assoc]
    conv => lhs; rw [← List.take_append_drop e l, ← List.take_append_drop k (l.take e), e1]
  · intro c hc
    obtain ⟨j, hj, rfl⟩ := getD_mem hc
    rw [List.length_take] at hj
    have := h3 j (by omega)
    simpa [List.getD_eq_getElem?_getD, List.getElem?_take_of_lt (show j < k by omega)] using this
  · intro c hc
    obtain ⟨j, hj, rfl⟩ := getD_mem hc
    rw [List.length_drop] at hj
    have := h4 (e + j) (by omega) (by omega)
    simpa [List.getD_eq_getElem?_getD, List.getElem?_drop] using this
  · intro c r hcr
    have hpos : 0 < e - k := by rw [← hlen, hcr]; simp
    have := hm 0 hpos
    rw [hcr] at this
    have e2 : c = l.getD k 0 := by simpa using this
    rw [e2]; exact h5 (by omega)
  · intro c r hcr
    have hr : e - k = r.length + 1 := by rw [← hlen, hcr]; simp
    have := hm r.length (by omega)
    rw [hcr] at this
    have e2 : c = l.getD (k + r.length) 0 := by simpa [List.getD_eq_getElem?_getD] using this
    rw [e2, show k + r.length = e - 1 by omega]; exact h6 (by omega)
theorem trim_around (p q l : List UInt8) (hp : ∀ c ∈ p, blankB c = true) (hq : ∀ c ∈ q, blankB c = true) : trimL (p ++ (l ++ q)) = trimL l := by
  obtain ⟨a, b, hl, ha, hb, h1, h2⟩ := trim_split l
  have e : p ++ (l ++ q) = (p ++ a) ++ (trimL l ++ (b ++ q)) := by
    conv => lhs; rw [hl]
    simp only [List.append_assoc]
  rw [e]
  exact trim_char _ _ _ (by intro c hc; rcases List.mem_append.mp hc with h | h; exact hp c h; exact ha c h) (by intro c hc; rcases List.mem_append.mp hc with h | h; exact hb c h; exact hq c h) h1 h2
theorem trim_trim (l : List UInt8) : trimL (trimL l) = trimL l := by
  obtain ⟨a, b, hl, ha, hb, h1, h2⟩ := trim_split l
  have := trim_char [] (trimL l) [] (by simp) (by simp) h1 h2
  simpa using this

/-! folding -/
theorem low_low (l : List UInt8) : lowL (lowL l) = lowL l := by
  have h : ∀ c, lowB (lowB c) = lowB c := fun c => by
    have hc := c.toNat_lt
    have e : ((lowB c).toNat : Int) = lowI c.toNat := by
      unfold lowB; rw [UInt8.toNat_ofNat']; unfold lowI; split <;> omega
    apply lowB_inj
    rw [e]
    unfold lowI
    split
    · omega
    · omega
  simp only [lowL_map, List.map_map]
  exact List.map_congr_left fun c _ => h c
theorem fold_symm (a b : List UInt8) : foldL b a = foldL a b := by unfold foldL; exact decide_eq_decide.mpr ⟨Eq.symm, Eq.symm⟩
theorem fold_refl (a : List UInt8) : foldL a a = true := by unfold foldL; exact decide_eq_true rfl
theorem fold_low (a : List UInt8) : foldL a (lowL a) = true := by unfold foldL; exact decide_eq_true (low_low a).symm
theorem fold_trans {a b c : List UInt8} (h1 : foldL a b = true) (h2 : foldL b c = true) : foldL a c = true := by
  unfold foldL at *; exact decide_eq_true ((of_decide_eq_true h1).trans (of_decide_eq_true h2))

end Go.Proofs.Ytlcojfkkeommoaa.Asc
