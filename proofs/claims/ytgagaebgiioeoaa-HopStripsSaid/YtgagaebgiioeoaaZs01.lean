/- Merged texts: AscSpec AscSpec2 StaSpec AscSpec3 FieSpec LstSpec LisSpec. -/
import Derived.Laws.Strings
import Derived.Lib.IndexLaws
set_option linter.unusedVariables false
set_option linter.unusedSimpArgs false
set_option maxRecDepth 100000
namespace Go.Proofs.Ytgagaebgiioeoaa.Asc
section
def letterI (b : Int) : Bool := decide (97 ≤ b ∧ b ≤ 122) || decide (65 ≤ b ∧ b ≤ 90)
def digitI (b : Int) : Bool := decide (48 ≤ b ∧ b ≤ 57)
def signI (b : Int) : Bool := b == 33 || b == 35 || b == 36 || b == 37 || b == 38 || b == 39 || b == 42 || b == 43 || b == 45 || b == 46 || b == 94 || b == 95 || b == 96 || b == 124 || b == 126
def signL : List Int := [33, 35, 36, 37, 38, 39, 42, 43, 45, 46, 94, 95, 96, 124, 126]
def tokI (b : Int) : Bool := signI b || letterI b || digitI b
theorem sign_at : ∀ k : Fin 15, ((⟨#[33, 35, 36, 37, 38, 39, 42, 43, 45, 46, 94, 95, 96, 124, 126]⟩ : ByteArray).data[k.1]).toNat = signL.getD k.1 0 := by decide
theorem sign_yes {b : Int} {k : Nat} (hk : k < 15) (h : ((((⟨#[33, 35, 36, 37, 38, 39, 42, 43, 45, 46, 94, 95, 96, 124, 126]⟩ : ByteArray)[k]'hk).toNat : Int) == b) = true) : tokI b = true := by
  have e : ((((⟨#[33, 35, 36, 37, 38, 39, 42, 43, 45, 46, 94, 95, 96, 124, 126]⟩ : ByteArray)[k]'hk).toNat : Int)) = signL.getD k 0 := sign_at ⟨k, hk⟩
  rw [e] at h
  have h' : signL.getD k 0 = b := by simpa using h
  have hs : ∀ k : Fin 15, signI (signL.getD k.1 0) = true := by decide
  have := hs ⟨k, hk⟩
  simp only [h'] at this
  simp [tokI, this]
theorem sign_more {b : Int} {k : Nat} (hno : ∀ j < k, signL.getD j 0 ≠ b) (hk : k < 15) (h : ((((⟨#[33, 35, 36, 37, 38, 39, 42, 43, 45, 46, 94, 95, 96, 124, 126]⟩ : ByteArray)[k]'hk).toNat : Int) == b) = false) : ∀ j < k + 1, signL.getD j 0 ≠ b := by
  have e : ((((⟨#[33, 35, 36, 37, 38, 39, 42, 43, 45, 46, 94, 95, 96, 124, 126]⟩ : ByteArray)[k]'hk).toNat : Int)) = signL.getD k 0 := sign_at ⟨k, hk⟩
  rw [e] at h
  have h' : ¬ signL.getD k 0 = b := by simpa using h
  intro j hj
  rcases Nat.lt_succ_iff_lt_or_eq.mp hj with h1 | rfl
  · exact hno j h1
  · exact h'
theorem sign_no {b : Int} {k : Nat} (hno : ∀ j < k, signL.getD j 0 ≠ b) (hk : 15 ≤ k) (hl : (letterI b || digitI b) = false) : tokI b = false := by
  have h : signI b = false := by
    have a := fun j (hj : j < 15) => hno j (by omega)
    have a0 := a 0 (by omega); have a1 := a 1 (by omega); have a2 := a 2 (by omega); have a3 := a 3 (by omega); have a4 := a 4 (by omega)
    have a5 := a 5 (by omega); have a6 := a 6 (by omega); have a7 := a 7 (by omega); have a8 := a 8 (by omega); have a9 := a 9 (by omega)
    have a10 := a 10 (by omega); have a11 := a 11 (by omega); have a12 := a 12 (by omega); have a13 := a 13 (by omega); have a14 := a 14 (by omega)
    simp [signL] at a0 a1 a2 a3 a4 a5 a6 a7 a8 a9 a10 a11 a12 a13 a14
    simp [signI]
    omega
  simp only [tokI, h, Bool.false_or]; exact hl
def blankI (b : Int) : Bool := b == 32 || b == 9
def lowI (b : Int) : Int := if 65 ≤ b ∧ b ≤ 90 then b + 32 else b
/-- every byte of the list has the property -/
def allI (p : Int → Bool) (l : List UInt8) : Bool := l.all fun c => p c.toNat
def tokL (l : List UInt8) : Bool := !l.isEmpty && allI tokI l
def lowL (l : List UInt8) : List UInt8 := l.map fun c => UInt8.ofNat (lowI c.toNat).toNat
theorem allI_snoc (p : Int → Bool) (l : List UInt8) (c : UInt8) : allI p (l ++ [c]) = (allI p l && p c.toNat) := by simp [allI]
theorem take_snoc (s : ByteArray) (k : Nat) (h : k < s.size) : s.data.toList.take (k + 1) = s.data.toList.take k ++ [s[k]] := by
  rw [List.take_succ_eq_append_getElem (by simpa using h)]; rfl
theorem all_more {p : Int → Bool} {s : ByteArray} {k : Nat} (h : allI p (s.data.toList.take k) = true) (hk : k < s.size) (hp : p (s[k].toNat) = true) : allI p (s.data.toList.take (k + 1)) = true := by
  rw [take_snoc s k hk, allI_snoc, h, hp]; rfl
theorem all_not {p : Int → Bool} {s : ByteArray} {k : Nat} (hk : k < s.size) (hp : p (s[k].toNat) = false) : allI p s.data.toList = false := by
  rw [← Bool.not_eq_true]; intro h
  have := List.all_eq_true.mp h s[k] (by exact List.getElem_mem (l := s.data.toList) (by simpa using hk))
  rw [hp] at this; cases this
theorem all_end {p : Int → Bool} {s : ByteArray} {k : Nat} (h : allI p (s.data.toList.take k) = true) (hk : s.size ≤ k) : allI p s.data.toList = true := by
  rwa [List.take_of_length_le (by simpa using hk)] at h
/-- the inside of a quoted string, its backslashes resolved -/
def unescL : List UInt8 → Option (List UInt8)
  | [] => some []
  | [c] => if c = 34 ∨ c = 92 then none else some [c]
  | c :: d :: r => if c = 34 then none else if c = 92 then (unescL r).map (d :: ·) else (unescL (d :: r)).map (c :: ·)
theorem unescL_o (c : UInt8) (r : List UInt8) (h1 : c ≠ 34) (h2 : c ≠ 92) : unescL (c :: r) = (unescL r).map (c :: ·) := by
  cases r <;> simp [unescL, h1, h2]
theorem drop_cons (s : ByteArray) (k : Nat) (h : k < s.size) : s.data.toList.drop k = s[k] :: s.data.toList.drop (k + 1) := by
  rw [List.drop_eq_getElem_cons (by simpa using h)]; rfl
/-- what has been read so far is acc, what is left is the list from k on -/
def UnAt (l : List UInt8) (k : Nat) (acc : List UInt8) : Prop := acc.length ≤ k ∧ unescL l = (unescL (l.drop k)).map (acc ++ ·)
theorem UnAt.start (l : List UInt8) : UnAt l 0 [] := ⟨by simp, by simp⟩
theorem UnAt.fin {l : List UInt8} {k : Nat} {acc : List UInt8} (h : UnAt l k acc) (hk : l.length ≤ k) : unescL l = some acc := by
  rw [h.2, List.drop_of_length_le hk]; simp [unescL]
theorem byte_ne {c : UInt8} {n : Nat} (h : ((c.toNat : Int) == (n : Int)) = false) (hn : n < 256) : c ≠ UInt8.ofNat n := by
  intro e; subst e
  rw [UInt8.toNat_ofNat'] at h
  simp [Nat.mod_eq_of_lt hn] at h
theorem UnAt.plain {s : ByteArray} {k : Nat} {acc : List UInt8} (h : UnAt s.data.toList k acc) (hk : k < s.size) (h1 : ((s[k].toNat : Int) == 34) = false) (h2 : ((s[k].toNat : Int) == 92) = false) : UnAt s.data.toList (k + 1) (acc ++ [s[k]]) := by
  refine ⟨by have := h.1; simp; omega, ?_⟩
  rw [h.2, drop_cons s k hk, unescL_o _ _ (byte_ne (n := 34) h1 (by omega)) (byte_ne (n := 92) h2 (by omega)), Option.map_map]; congr 1; funext x; simp
theorem getD_at (s : ByteArray) (k : Nat) (h : k < s.size) : s.data.toList.getD k 0 = s[k] := by
  rw [List.getD_eq_getElem?_getD, List.getElem?_eq_getElem (by simpa using h)]; rfl
/-- the last decimal digit of m, as a byte -/
def digB (m : Nat) : UInt8 := UInt8.ofNat (48 + m % 10)
/-- the decimal digits of m ahead of acc, at most f of them, at least one -/
def decF : Nat → Nat → List UInt8 → List UInt8
  | 0, _, acc => acc
  | f + 1, m, acc => if m / 10 = 0 then digB m :: acc else decF f (m / 10) (digB m :: acc)
def decL (n : Int) : List UInt8 := if n < 0 then 45 :: decF 20 n.natAbs [] else decF 20 n.natAbs []
/-- the digits acc have been written, m is left of N -/
def DecAt (N m : Nat) (acc : List UInt8) : Prop :=
  decF (20 - acc.length) m acc = decF 20 N [] ∧ m * 10 ^ acc.length ≤ 9223372036854775808 ∧ (acc.length = 0 ∨ 1 ≤ m)
theorem DecAt.start {N : Nat} (h : N ≤ 9223372036854775808) : DecAt N N [] := ⟨rfl, by simpa using h, .inl rfl⟩
theorem DecAt.len {N m : Nat} {acc : List UInt8} (h : DecAt N m acc) : acc.length ≤ 18 := by
  rcases h.2.2 with h0 | h1
  · omega
  · rcases Nat.lt_or_ge 18 acc.length with hl | hl
    · have a1 : 10 ^ 19 ≤ 10 ^ acc.length := Nat.pow_le_pow_right (by omega) hl
      have a2 : 10 ^ acc.length ≤ m * 10 ^ acc.length := Nat.le_mul_of_pos_left _ h1
      have a3 := h.2.1
      omega
    · exact hl
theorem DecAt.step {N m : Nat} {acc : List UInt8} (h : DecAt N m acc) (hm : ¬ m / 10 = 0) : DecAt N (m / 10) (digB m :: acc) := by
  have hl := h.len
  refine ⟨?_, ?_, .inr (by omega)⟩
  · rw [← h.1]
    obtain ⟨f, hf⟩ : ∃ f, 20 - acc.length = f + 1 := ⟨19 - acc.length, by omega⟩
    have hf' : 20 - (digB m :: acc).length = f := by simp; omega
    rw [hf', hf]; simp only [decF]; rw [if_neg hm]
  · have h1 : m / 10 * 10 ^ (acc.length + 1) = (m / 10 * 10) * 10 ^ acc.length := by rw [Nat.pow_succ]; rw [Nat.mul_assoc, Nat.mul_comm (10 ^ acc.length) 10, ← Nat.mul_assoc]
    have h2 : m / 10 * 10 ≤ m := by omega
    have h3 : (m / 10 * 10) * 10 ^ acc.length ≤ m * 10 ^ acc.length := Nat.mul_le_mul_right _ h2
    have h4 := h.2.1
    rw [List.length_cons, h1]; omega
theorem DecAt.fin {N m : Nat} {acc : List UInt8} (h : DecAt N m acc) (hm : m / 10 = 0) : decF 20 N [] = digB m :: acc := by
  have hl := h.len
  rw [← h.1]
  obtain ⟨f, hf⟩ : ∃ f, 20 - acc.length = f + 1 := ⟨19 - acc.length, by omega⟩
  rw [hf]; simp only [decF]; rw [if_pos hm]
theorem dig_toNat (m : Nat) : ((digB m).toNat : Int) = 48 + (m : Int) % 10 := by
  unfold digB; rw [UInt8.toNat_ofNat']; omega
/-- what stands in the buffer: p zeros, then acc -/
def zbuf (p : Nat) (acc : List UInt8) : List UInt8 := List.replicate p 0 ++ acc
theorem zbuf_set {p : Nat} {acc : List UInt8} (c : UInt8) (hp : 1 ≤ p) : (zbuf p acc).set (p - 1) c = zbuf (p - 1) (c :: acc) := by
  obtain ⟨q, rfl⟩ : ∃ q, p = q + 1 := ⟨p - 1, by omega⟩
  unfold zbuf
  rw [Nat.add_sub_cancel, List.replicate_succ', List.append_assoc, List.set_append_right _ _ (by simp), List.length_replicate, Nat.sub_self]
  rfl
end
section
def foldL (a b : List UInt8) : Bool := decide (lowL a = lowL b)
def lowB (c : UInt8) : UInt8 := UInt8.ofNat (lowI c.toNat).toNat
theorem lowL_map (l : List UInt8) : lowL l = l.map lowB := rfl
theorem lowB_inj {c d : UInt8} (h : lowI c.toNat = lowI d.toNat) : lowB c = lowB d := by unfold lowB; rw [h]
theorem lowI_of {c d : UInt8} (h : lowB c = lowB d) : lowI c.toNat = lowI d.toNat := by
  have hb : ∀ x : UInt8, ((lowB x).toNat : Int) = lowI x.toNat := fun x => by
    have := x.toNat_lt
    unfold lowB; rw [UInt8.toNat_ofNat']
    unfold lowI; split <;> omega
  rw [← hb, ← hb, h]
theorem fold_len {a b : ByteArray} (h : ¬ a.size = b.size) : foldL a.data.toList b.data.toList = false := by
  unfold foldL; rw [decide_eq_false]; intro e
  have := congrArg List.length e
  simp [lowL] at this; exact h this
theorem fold_more {a b : ByteArray} {k : Nat} (h : lowL (a.data.toList.take k) = lowL (b.data.toList.take k)) (ha : k < a.size) (hb : k < b.size) (hc : lowI a[k].toNat = lowI b[k].toNat) : lowL (a.data.toList.take (k + 1)) = lowL (b.data.toList.take (k + 1)) := by
  rw [take_snoc a k ha, take_snoc b k hb]
  simp only [lowL_map] at h ⊢
  rw [List.map_append, List.map_append, h, List.map_cons, List.map_cons, lowB_inj hc]
theorem fold_not {a b : ByteArray} {k : Nat} (ha : k < a.size) (hb : k < b.size) (hc : ¬ lowI a[k].toNat = lowI b[k].toNat) : foldL a.data.toList b.data.toList = false := by
  unfold foldL; rw [decide_eq_false]; intro e
  have h1 := congrArg (fun l : List UInt8 => l[k]?) e
  rw [lowL_map, lowL_map] at h1
  simp only [List.getElem?_map] at h1
  rw [List.getElem?_eq_getElem (by simpa using ha), List.getElem?_eq_getElem (by simpa using hb)] at h1
  simp only [Option.map_some, Option.some.injEq] at h1
  exact hc (lowI_of h1)
theorem fold_end {a b : ByteArray} {k : Nat} (h : lowL (a.data.toList.take k) = lowL (b.data.toList.take k)) (ha : a.size ≤ k) (hb : b.size ≤ k) : foldL a.data.toList b.data.toList = true := by
  rw [List.take_of_length_le (by simpa using ha), List.take_of_length_le (by simpa using hb)] at h
  unfold foldL; rw [decide_eq_true h]
def blankB (c : UInt8) : Bool := blankI c.toNat
def trimL (l : List UInt8) : List UInt8 := ((l.dropWhile blankB).reverse.dropWhile blankB).reverse
theorem dropW (a m : List UInt8) (ha : ∀ c ∈ a, blankB c = true) (hm : ∀ c r, m = c :: r → blankB c = false) : (a ++ m).dropWhile blankB = m := by
  induction a with
  | nil =>
    rcases m with _ | ⟨c, r⟩
    · rfl
    · simp [hm c r rfl]
  | cons c a ih =>
    simp only [List.cons_append, List.dropWhile_cons, ha c (by simp)]
    exact ih fun d hd => ha d (by simp [hd])
theorem trim_char (a m b : List UInt8) (ha : ∀ c ∈ a, blankB c = true) (hb : ∀ c ∈ b, blankB c = true) (h1 : ∀ c r, m = c :: r → blankB c = false) (h2 : ∀ c r, m = r ++ [c] → blankB c = false) : trimL (a ++ (m ++ b)) = m := by
  unfold trimL
  rcases hm : m with _ | ⟨c, r⟩
  · have : (a ++ ([] ++ b)).dropWhile blankB = [] := by
      have := dropW (a ++ b) [] (by intro c hc; rcases List.mem_append.mp hc with h | h; exact ha c h; exact hb c h) (by intro c r h; cases h)
      simpa using this
    rw [this]; rfl
  · rw [dropW a _ ha (by intro d q h; rw [List.cons_append] at h; injection h with e _; exact e ▸ h1 c r hm)]
    rw [List.reverse_append, dropW b.reverse _ (by intro d hd; exact hb d (List.mem_reverse.mp hd)) ?_, List.reverse_reverse]
    intro d q h
    have e2 : c :: r = q.reverse ++ [d] := by
      have := congrArg List.reverse h
      simpa using this
    exact h2 d q.reverse (hm.trans e2)
/-- the bounds of what is left: start and end -/
def TrimAt (l : List UInt8) (k e : Nat) : Prop :=
  k ≤ e ∧ e ≤ l.length ∧ (∀ j, j < k → blankB (l.getD j 0) = true) ∧ (∀ j, e ≤ j → j < l.length → blankB (l.getD j 0) = true) ∧ (k < l.length → blankB (l.getD k 0) = false) ∧ (k < e → blankB (l.getD (e - 1) 0) = false)
theorem ex_start (l : List UInt8) : ∀ m k, l.length = k + m → (∀ j, j < k → blankB (l.getD j 0) = true) → ∃ k', k' ≤ l.length ∧ (∀ j, j < k' → blankB (l.getD j 0) = true) ∧ (k' < l.length → blankB (l.getD k' 0) = false)
  | 0, k, h, hk => ⟨k, by omega, hk, by omega⟩
  | m + 1, k, h, hk => by
    rcases hb : blankB (l.getD k 0) with _ | _
    · exact ⟨k, by omega, hk, fun _ => hb⟩
    · exact ex_start l m (k + 1) (by omega) fun j hj => by
        rcases Nat.lt_succ_iff_lt_or_eq.mp hj with h1 | rfl
        · exact hk j h1
        · exact hb
theorem ex_end (l : List UInt8) (k : Nat) : ∀ m e, e = k + m → e ≤ l.length → (∀ j, e ≤ j → j < l.length → blankB (l.getD j 0) = true) → ∃ e', k ≤ e' ∧ e' ≤ l.length ∧ (∀ j, e' ≤ j → j < l.length → blankB (l.getD j 0) = true) ∧ (k < e' → blankB (l.getD (e' - 1) 0) = false)
  | 0, e, h, he, hk => ⟨e, by omega, he, hk, by omega⟩
  | m + 1, e, h, he, hk => by
    rcases hb : blankB (l.getD (e - 1) 0) with _ | _
    · exact ⟨e, by omega, he, hk, fun _ => hb⟩
    · exact ex_end l k m (e - 1) (by omega) (by omega) fun j hj hl => by
        by_cases e' : j = e - 1
        · subst e'; exact hb
        · exact hk j (by omega) hl
theorem ex_trim (l : List UInt8) : ∃ k e, TrimAt l k e := by
  obtain ⟨k, h1, h2, h3⟩ := ex_start l l.length 0 (by omega) (by intro j hj; omega)
  obtain ⟨e, h4, h5, h6, h7⟩ := ex_end l k (l.length - k) l.length (by omega) (Nat.le_refl _) (by intro j hj hl; omega)
  exact ⟨k, e, h4, h5, h2, h6, h3, h7⟩
theorem getD_mem {l : List UInt8} {c : UInt8} (h : c ∈ l) : ∃ j, j < l.length ∧ l.getD j 0 = c := by
  obtain ⟨j, hj, e⟩ := List.getElem_of_mem h
  exact ⟨j, hj, by simp [List.getD_eq_getElem?_getD, hj, e]⟩
theorem trim_at {l : List UInt8} {k e : Nat} (h : TrimAt l k e) : trimL l = (l.take e).drop k := by
  obtain ⟨h1, h2, h3, h4, h5, h6⟩ := h
  have hl : l = l.take k ++ ((l.take e).drop k ++ l.drop e) := by
    have e1 : (l.take e).take k = l.take k := by rw [List.take_take, Nat.min_eq_left h1]
    rw [← List.append_assoc]
    conv => lhs; rw [← List.take_append_drop e l, ← List.take_append_drop k (l.take e), e1]
  have hm : ∀ j, j < ((l.take e).drop k).length → ((l.take e).drop k).getD j 0 = l.getD (k + j) 0 := by
    intro j hj
    simp only [List.length_drop, List.length_take] at hj
    simp only [List.getD_eq_getElem?_getD, List.getElem?_drop]
    rw [List.getElem?_take_of_lt (by omega)]
  have hlen : ((l.take e).drop k).length = e - k := by simp only [List.length_drop, List.length_take]; omega
  conv => lhs; rw [hl]
  refine trim_char _ _ _ ?_ ?_ ?_ ?_
  · intro c hc
    obtain ⟨j, hj, rfl⟩ := getD_mem hc
    rw [List.length_take] at hj
    have := h3 j (by omega)
    simpa [List.getD_eq_getElem?_getD, List.getElem?_take_of_lt (show j < k by omega)] using this
  · intro c hc
    obtain ⟨j, hj, rfl⟩ := getD_mem hc
    rw [List.length_drop] at hj
    have := h4 (e + j) (by omega) (by omega)
    simpa [List.getD_eq_getElem?_getD, List.getElem?_drop] using this
  · intro c r hcr
    have := hm 0 (by rw [hcr]; simp)
    rw [hcr] at this
    have e2 : c = l.getD k 0 := by simpa using this
    rw [e2]; refine h5 ?_
    have : 0 < e - k := by rw [← hlen, hcr]; simp
    omega
  · intro c r hcr
    have hr : e - k = r.length + 1 := by rw [← hlen, hcr]; simp
    have := hm r.length (by rw [hcr]; simp)
    rw [hcr] at this
    have e2 : c = l.getD (k + r.length) 0 := by simpa [List.getD_eq_getElem?_getD] using this
    rw [e2, show k + r.length = e - 1 by omega]; exact h6 (by omega)
end
section
/-- a string out of a list of bytes, as a word that no rule opens -/
def bs (l : List UInt8) : ByteArray := ⟨l.toArray⟩
theorem bs_toList (l : List UInt8) : (bs l).data.toList = l := rfl
theorem bs_size (l : List UInt8) : (bs l).size = l.length := rfl
theorem bs_of (s : ByteArray) : s = bs s.data.toList := rfl
theorem toList_bs (l : List UInt8) : (bs l).toList = l := by rw [ByteArray.toList_eq]; rfl
theorem toList_data (s : ByteArray) : s.toList = s.data.toList := ByteArray.toList_eq s
theorem ext_bs (s : ByteArray) (a b : Nat) : s.extract a b = bs ((s.data.toList.take b).drop a) := by
  apply ByteArray.ext
  rw [ByteArray.data_extract]
  apply Array.toList_inj.mp
  rw [Array.toList_extract, List.extract_eq_take_drop, List.drop_take]
  rfl
end
section
theorem trim_split (l : List UInt8) : ∃ a b, l = a ++ (trimL l ++ b) ∧ (∀ c ∈ a, blankB c = true) ∧ (∀ c ∈ b, blankB c = true) ∧ (∀ c r, trimL l = c :: r → blankB c = false) ∧ (∀ c r, trimL l = r ++ [c] → blankB c = false) := by
  obtain ⟨k, e, ht⟩ := ex_trim l
  have hT := trim_at ht
  obtain ⟨h1, h2, h3, h4, h5, h6⟩ := ht
  have hlen : (trimL l).length = e - k := by rw [hT]; simp only [List.length_drop, List.length_take]; omega
  have hm : ∀ j, j < e - k → (trimL l).getD j 0 = l.getD (k + j) 0 := by
    intro j hj
    rw [hT]
    simp only [List.getD_eq_getElem?_getD, List.getElem?_drop]
    rw [List.getElem?_take_of_lt (by omega)]
  refine ⟨l.take k, l.drop e, ?_, ?_, ?_, ?_, ?_⟩
  · have e1 : (l.take e).take k = l.take k := by rw [List.take_take, Nat.min_eq_left h1]
    rw [hT, ← List.append_assoc]
    conv => lhs; rw [← List.take_append_drop e l, ← List.take_append_drop k (l.take e), e1]
  · intro c hc
    obtain ⟨j, hj, rfl⟩ := getD_mem hc
    rw [List.length_take] at hj
    have := h3 j (by omega)
    simpa [List.getD_eq_getElem?_getD, List.getElem?_take_of_lt (show j < k by omega)] using this
  · intro c hc
    obtain ⟨j, hj, rfl⟩ := getD_mem hc
    rw [List.length_drop] at hj
    have := h4 (e + j) (by omega) (by omega)
    simpa [List.getD_eq_getElem?_getD, List.getElem?_drop] using this
  · intro c r hcr
    have hpos : 0 < e - k := by rw [← hlen, hcr]; simp
    have := hm 0 hpos
    rw [hcr] at this
    have e2 : c = l.getD k 0 := by simpa using this
    rw [e2]; exact h5 (by omega)
  · intro c r hcr
    have hr : e - k = r.length + 1 := by rw [← hlen, hcr]; simp
    have := hm r.length (by omega)
    rw [hcr] at this
    have e2 : c = l.getD (k + r.length) 0 := by simpa [List.getD_eq_getElem?_getD] using this
    rw [e2, show k + r.length = e - 1 by omega]; exact h6 (by omega)
theorem fold_symm (a b : List UInt8) : foldL b a = foldL a b := by unfold foldL; exact decide_eq_decide.mpr ⟨Eq.symm, Eq.symm⟩
theorem fold_refl (a : List UInt8) : foldL a a = true := by unfold foldL; exact decide_eq_true rfl
end
section
theorem trim_le (l : List UInt8) : (trimL l).length ≤ l.length := by
  obtain ⟨a, b, h, _⟩ := trim_split l
  have := congrArg List.length h
  simp at this; omega
end
section
abbrev F := ByteArray × ByteArray
/-- has the name -/
def nmd (nm : ByteArray) (p : F) : Bool := foldL p.1.data.toList nm.data.toList
def getL (nm : ByteArray) (L : List F) : List ByteArray := (L.filter (nmd nm)).map (·.2)
def remL (nm : ByteArray) (L : List F) : List F := L.filter (fun p => !nmd nm p)
def okF (p : F) : Bool := decide (p.1.size ≤ 300) && decide (p.2.size ≤ 300)
def keepF (L : List F) : Bool := L.all okF && decide (L.length ≤ 70)
theorem take_next {α : Type} {L : List α} {k : Nat} (h : k < L.length) : L.take (k + 1) = L.take k ++ [L[k]] := List.take_succ_eq_append_getElem h
theorem keep_more {L : List F} {k : Nat} (h : k < L.length) (ha : (L.take k).all okF = true) (h1 : L[k].1.size ≤ 300) (h2 : L[k].2.size ≤ 300) : (L.take (k + 1)).all okF = true := by
  rw [take_next h, List.all_append, ha]
  simp [okF, h1, h2]
theorem keep_bad {L : List F} {k : Nat} (h : k < L.length) (h1 : ¬ (L[k].1.size ≤ 300 ∧ L[k].2.size ≤ 300)) : keepF L = false := by
  have : L.all okF = false := by
    rw [← Bool.not_eq_true]; intro ha
    have := List.all_eq_true.mp ha L[k] (List.getElem_mem h)
    simp only [okF, Bool.and_eq_true, decide_eq_true_eq] at this
    exact h1 this
  unfold keepF; rw [this]; rfl
theorem keep_long {L : List F} (h : ¬ L.length ≤ 70) : keepF L = false := by unfold keepF; simp [h]
theorem keep_end {L : List F} (ha : (L.take L.length).all okF = true) (h : L.length ≤ 70) : keepF L = true := by
  rw [List.take_length] at ha
  unfold keepF; rw [ha]; simp [h]
theorem keep_parts {L : List F} (h : keepF L = true) : L.length ≤ 70 ∧ ∀ i (hi : i < L.length), L[i].1.size ≤ 300 ∧ L[i].2.size ≤ 300 := by
  unfold keepF at h
  simp only [Bool.and_eq_true, decide_eq_true_eq] at h
  refine ⟨h.2, fun i hi => ?_⟩
  have := List.all_eq_true.mp h.1 L[i] (List.getElem_mem hi)
  simpa [okF] using this
/-- the place of the first one with the name, or -1 -/
def idxL (nm : ByteArray) (L : List F) : Int := if L.any (nmd nm) then ((L.takeWhile fun p => !nmd nm p).length : Int) else -1
theorem none_not {nm : ByteArray} {l : List F} (h : l.any (nmd nm) = false) : ∀ p ∈ l, nmd nm p = false := fun p hp => by
  have := List.any_eq_false.mp h p hp; simpa using this
theorem split_at {α : Type} {L : List α} {k : Nat} (h : k < L.length) : L = L.take k ++ L[k] :: L.drop (k + 1) := by
  rw [← List.drop_eq_getElem_cons h, List.take_append_drop]
theorem while_not {nm : ByteArray} {l r : List F} (h : l.any (nmd nm) = false) : (l ++ r).takeWhile (fun p => !nmd nm p) = l ++ r.takeWhile (fun p => !nmd nm p) :=
  List.takeWhile_append_of_pos (fun p hp => by rw [none_not h p hp]; rfl)
theorem idx_hit {nm : ByteArray} {L : List F} {k : Nat} (h : k < L.length) (ha : (L.take k).any (nmd nm) = false) (h1 : nmd nm L[k] = true) : idxL nm L = k := by
  have e := split_at h
  have hany : L.any (nmd nm) = true := List.any_eq_true.mpr ⟨L[k], List.getElem_mem h, h1⟩
  unfold idxL
  rw [if_pos hany]
  have : (L.takeWhile fun p => !nmd nm p) = L.take k := by
    conv => lhs; rw [e]
    rw [while_not ha, List.takeWhile_cons, h1]; simp
  rw [this, List.length_take, Nat.min_eq_left (Nat.le_of_lt h)]
/-- the two ways of an index -/
theorem idx_ways (nm : ByteArray) (L : List F) : (idxL nm L = -1 ∧ L.any (nmd nm) = false) ∨ ∃ k : Nat, ∃ h : k < L.length, idxL nm L = k ∧ (L.take k).any (nmd nm) = false ∧ nmd nm L[k] = true := by
  rcases h : L.any (nmd nm) with _ | _
  · exact .inl ⟨by unfold idxL; rw [if_neg (by simp [h])], rfl⟩
  · right
    obtain ⟨k, hk, h1, h2⟩ : ∃ k, ∃ hk : k < L.length, nmd nm L[k] = true ∧ (L.take k).any (nmd nm) = false := by
      induction L with
      | nil => cases h
      | cons p L ih =>
        rcases hp : nmd nm p with _ | _
        · rw [List.any_cons, hp, Bool.false_or] at h
          obtain ⟨k, hk, h1, h2⟩ := ih h
          exact ⟨k + 1, by simpa using hk, by simpa using h1, by rw [List.take_succ_cons, List.any_cons, hp, h2]; rfl⟩
        · exact ⟨0, by simp, by simpa using hp, rfl⟩
    exact ⟨k, hk, idx_hit hk h2 h1, h2, h1⟩
end
section
/-- the pieces of a list at a separator outside quoted strings; the piece that has been begun -/
def cutF (sep : UInt8) : Nat → Bool → List UInt8 → List UInt8 → List (List UInt8)
  | 0, _, _, acc => [acc]
  | _ + 1, _, [], acc => [acc]
  | f + 1, q, c :: r, acc =>
    if q = true ∧ c = 92 then (match r with | [] => [acc ++ [c]] | d :: r2 => cutF sep f q r2 (acc ++ [c, d]))
    else if c = 34 then cutF sep f (!q) r (acc ++ [c])
    else if c = sep ∧ q = false then acc :: cutF sep f q r []
    else cutF sep f q r (acc ++ [c])
def cutL (sep : UInt8) (l : List UInt8) : List (List UInt8) := cutF sep l.length false l []
/-- is a byte behind the list within a quoted string? -/
def endF : Nat → Bool → List UInt8 → Bool
  | 0, q, _ => q
  | _ + 1, q, [] => q
  | f + 1, q, c :: r =>
    if q = true ∧ c = 92 then (match r with | [] => true | _ :: r2 => endF f q r2)
    else if c = 34 then endF f (!q) r
    else endF f q r
def memL (ps : List (List UInt8)) : List (List UInt8) := (ps.map trimL).filter (fun p => !p.isEmpty)
def splitL (l : List UInt8) : List (List UInt8) := (memL (cutL 44 l)).take 64
theorem cutF_fuel {sep : UInt8} : ∀ (f g : Nat) (q : Bool) (l acc : List UInt8), l.length ≤ f → l.length ≤ g → cutF sep f q l acc = cutF sep g q l acc
  | f, g, q, [], acc, _, _ => by cases f <;> cases g <;> rfl
  | 0, g, q, c :: r, acc, h, _ => by simp at h
  | f + 1, 0, q, c :: r, acc, _, h => by simp at h
  | f + 1, g + 1, q, c :: r, acc, hf, hg => by
    simp only [List.length_cons] at hf hg
    unfold cutF
    split
    · split
      · rfl
      · rename_i d r2
        simp only [List.length_cons] at hf hg
        exact cutF_fuel f g q r2 _ (by omega) (by omega)
    · split
      · exact cutF_fuel f g (!q) r _ (by omega) (by omega)
      · split
        · rw [cutF_fuel f g q r _ (by omega) (by omega)]
        · exact cutF_fuel f g q r _ (by omega) (by omega)
theorem cutF_cons (sep : UInt8) (f : Nat) (q : Bool) (c : UInt8) (r acc : List UInt8) : cutF sep (f + 1) q (c :: r) acc = if q = true ∧ c = 92 then (match r with | [] => [acc ++ [c]] | d :: r2 => cutF sep f q r2 (acc ++ [c, d])) else if c = 34 then cutF sep f (!q) r (acc ++ [c]) else if c = sep ∧ q = false then acc :: cutF sep f q r [] else cutF sep f q r (acc ++ [c]) := rfl
theorem endF_cons (f : Nat) (q : Bool) (c : UInt8) (r : List UInt8) : endF (f + 1) q (c :: r) = if q = true ∧ c = 92 then (match r with | [] => true | _ :: r2 => endF f q r2) else if c = 34 then endF f (!q) r else endF f q r := rfl
theorem cutF_nil (sep : UInt8) (f : Nat) (q : Bool) (acc : List UInt8) : cutF sep f q [] acc = [acc] := by cases f <;> rfl
theorem memL_append (a b : List (List UInt8)) : memL (a ++ b) = memL a ++ memL b := by unfold memL; rw [List.map_append, List.filter_append]
theorem memL_one {p : List UInt8} (h : trimL p ≠ []) : memL [p] = [trimL p] := by
  unfold memL
  cases hq : trimL p with
  | nil => exact absurd hq h
  | cons c r => simp [hq]
end
end Go.Proofs.Ytgagaebgiioeoaa.Asc
