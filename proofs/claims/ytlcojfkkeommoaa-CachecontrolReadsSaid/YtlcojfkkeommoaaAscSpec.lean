/- Plain functions on bytes (as integers) and lists of bytes: what the functions of layer 1 compute. No program is named here. -/
set_option linter.unusedVariables false
set_option maxRecDepth 100000
namespace Go.Proofs.Ytlcojfkkeommoaa.Asc

def letterI (b : Int) : Bool := decide (97 ≤ b ∧ b ≤ 122) || decide (65 ≤ b ∧ b ≤ 90)
def digitI (b : Int) : Bool := decide (48 ≤ b ∧ b ≤ 57)
def signI (b : Int) : Bool := b == 33 || b == 35 || b == 36 || b == 37 || b == 38 || b == 39 || b == 42 || b == 43 || b == 45 || b == 46 || b == 94 || b == 95 || b == 96 || b == 124 || b == 126
def signL : List Int := [33, 35, 36, 37, 38, 39, 42, 43, 45, 46, 94, 95, 96, 124, 126]
def tokI (b : Int) : Bool := signI b || letterI b || digitI b
theorem sign_at : ∀ k : Fin 15, ((⟨#[33, 35, 36, 37, 38, 39, 42, 43, 45, 46, 94, 95, 96, 124, 126]⟩ : ByteArray).data[k.1]).toNat = signL.getD k.1 0 := by decide
theorem sign_yes {b : Int} {k : Nat} (hk : k < 15) (h : ((((⟨#[33, 35, 36, 37, 38, 39, 42, 43, 45, 46, 94, 95, 96, 124, 126]⟩ : ByteArray)[k]'hk).toNat : Int) == b) = true) : tokI b = true := by
  have e : ((((⟨#[33, 35, 36, 37, 38, 39, 42, 43, 45, 46, 94, 95, 96, 124, 126]⟩ : ByteArray)[k]'hk).toNat : Int)) = signL.getD k 0 := sign_at ⟨k, hk⟩
  rw [e] at h
  have h' : signL.getD k 0 = b := by simpa using h
  have hs : ∀ k : Fin 15, signI (signL.getD k.1 0) = true := by decide
  have := hs ⟨k, hk⟩
  simp only [h'] at this
  simp [tokI, this]
theorem sign_more {b : Int} {k : Nat} (hno : ∀ j < k, signL.getD j 0 ≠ b) (hk : k < 15) (h : ((((⟨#[33, 35, 36, 37, 38, 39, 42, 43, 45, 46, 94, 95, 96, 124, 126]⟩ : ByteArray)[k]'hk).toNat : Int) == b) = false) : ∀ j < k + 1, signL.getD j 0 ≠ b := by
  have e : ((((⟨#[33, 35, 36, 37, 38, 39, 42, 43, 45, 46, 94, 95, 96, 124, 126]⟩ : ByteArray)[k]'hk).toNat : Int)) = signL.getD k 0 := sign_at ⟨k, hk⟩
  rw [e] at h
  have h' : ¬ signL.getD k 0 = b := by simpa using h
  intro j hj
  rcases Nat.lt_succ_iff_lt_or_eq.mp hj with h1 | rfl
  · exact hno j h1
  · exact h'
theorem sign_no {b : Int} {k : Nat} (hno : ∀ j < k, signL.getD j 0 ≠ b) (hk : 15 ≤ k) (hl : (letterI b || digitI b) = false) : tokI b = false := by
  have h : signI b = false := by
    have a := fun j (hj : j < 15) => hno j (by omega)
    have a0 := a 0 (by omega); have a1 := a 1 (by omega); have a2 := a 2 (by omega); have a3 := a 3 (by omega); have a4 := a 4 (by omega)
    have a5 := a 5 (by omega); have a6 := a 6 (by omega); have a7 := a 7 (by omega); have a8 := a 8 (by omega); have a9 := a 9 (by omega)
    have a10 := a 10 (by omega); have a11 := a 11 (by omega); have a12 := a 12 (by omega); have a13 := a 13 (by omega); have a14 := a 14 (by omega)
    simp [signL] at a0 a1 a2 a3 a4 a5 a6 a7 a8 a9 a10 a11 a12 a13 a14
    simp [signI]
    omega
  simp only [tokI, h, Bool.false_or]; exact hl
def textI (b : Int) : Bool := b == 9 || decide (32 ≤ b ∧ b ≤ 126) || decide (128 ≤ b)
def blankI (b : Int) : Bool := b == 32 || b == 9
def lowI (b : Int) : Int := if 65 ≤ b ∧ b ≤ 90 then b + 32 else b

/-- every byte of the list has the property -/
def allI (p : Int → Bool) (l : List UInt8) : Bool := l.all fun c => p c.toNat
def tokL (l : List UInt8) : Bool := !l.isEmpty && allI tokI l
def textL (l : List UInt8) : Bool := allI textI l
def lowL (l : List UInt8) : List UInt8 := l.map fun c => UInt8.ofNat (lowI c.toNat).toNat
theorem allI_snoc (p : Int → Bool) (l : List UInt8) (c : UInt8) : allI p (l ++ [c]) = (allI p l && p c.toNat) := by simp [allI]
theorem take_snoc (s : ByteArray) (k : Nat) (h : k < s.size) : s.data.toList.take (k + 1) = s.data.toList.take k ++ [s[k]] := by
  rw [List.take_succ_eq_append_getElem (by simpa using h)]; rfl
theorem all_more {p : Int → Bool} {s : ByteArray} {k : Nat} (h : allI p (s.data.toList.take k) = true) (hk : k < s.size) (hp : p (s[k].toNat) = true) : allI p (s.data.toList.take (k + 1)) = true := by
  rw [take_snoc s k hk, allI_snoc, h, hp]; rfl
theorem all_not {p : Int → Bool} {s : ByteArray} {k : Nat} (hk : k < s.size) (hp : p (s[k].toNat) = false) : allI p s.data.toList = false := by
  rw [← Bool.not_eq_true]; intro h
  have := List.all_eq_true.mp h s[k] (by exact List.getElem_mem (l := s.data.toList) (by simpa using hk))
  rw [hp] at this; cases this
theorem all_end {p : Int → Bool} {s : ByteArray} {k : Nat} (h : allI p (s.data.toList.take k) = true) (hk : s.size ≤ k) : allI p s.data.toList = true := by
  rwa [List.take_of_length_le (by simpa using hk)] at h

/-- the inside of a quoted string, its backslashes resolved -/
def unescL : List UInt8 → Option (List UInt8)
  | [] => some []
  | [c] => if c = 34 ∨ c = 92 then none else some [c]
  | c :: d :: r => if c = 34 then none else if c = 92 then (unescL r).map (d :: ·) else (unescL (d :: r)).map (c :: ·)
theorem unescL_q (r : List UInt8) : unescL (34 :: r) = none := by cases r <;> simp [unescL]
theorem unescL_e : unescL [92] = none := by simp [unescL]
theorem unescL_b (d : UInt8) (r : List UInt8) : unescL (92 :: d :: r) = (unescL r).map (d :: ·) := by simp [unescL]
theorem unescL_o (c : UInt8) (r : List UInt8) (h1 : c ≠ 34) (h2 : c ≠ 92) : unescL (c :: r) = (unescL r).map (c :: ·) := by
  cases r <;> simp [unescL, h1, h2]
theorem drop_cons (s : ByteArray) (k : Nat) (h : k < s.size) : s.data.toList.drop k = s[k] :: s.data.toList.drop (k + 1) := by
  rw [List.drop_eq_getElem_cons (by simpa using h)]; rfl
/-- what has been read so far is acc, what is left is the list from k on -/
def UnAt (l : List UInt8) (k : Nat) (acc : List UInt8) : Prop := acc.length ≤ k ∧ unescL l = (unescL (l.drop k)).map (acc ++ ·)
theorem UnAt.start (l : List UInt8) : UnAt l 0 [] := ⟨by simp, by simp⟩
theorem UnAt.fin {l : List UInt8} {k : Nat} {acc : List UInt8} (h : UnAt l k acc) (hk : l.length ≤ k) : unescL l = some acc := by
  rw [h.2, List.drop_of_length_le hk]; simp [unescL]
theorem byte_eq {c : UInt8} {n : Nat} (h : ((c.toNat : Int) == (n : Int)) = true) (hn : n < 256) : c = UInt8.ofNat n := by
  have : c.toNat = n := by have := eq_of_beq h; omega
  rw [← this]; simp
theorem byte_ne {c : UInt8} {n : Nat} (h : ((c.toNat : Int) == (n : Int)) = false) (hn : n < 256) : c ≠ UInt8.ofNat n := by
  intro e; subst e
  rw [UInt8.toNat_ofNat'] at h
  simp [Nat.mod_eq_of_lt hn] at h
theorem UnAt.quote {s : ByteArray} {k : Nat} {acc : List UInt8} (h : UnAt s.data.toList k acc) (hk : k < s.size) (hc : ((s[k].toNat : Int) == 34) = true) : unescL s.data.toList = none := by
  rw [h.2, drop_cons s k hk, byte_eq (n := 34) hc (by omega)]; show Option.map _ (unescL (34 :: _)) = none; rw [unescL_q]; rfl
theorem UnAt.last {s : ByteArray} {k : Nat} {acc : List UInt8} (h : UnAt s.data.toList k acc) (hk : k < s.size) (hc : ((s[k].toNat : Int) == 92) = true) (he : s.size ≤ k + 1) : unescL s.data.toList = none := by
  rw [h.2, drop_cons s k hk, byte_eq (n := 92) hc (by omega), List.drop_of_length_le (by simpa using he)]; show Option.map _ (unescL [92]) = none; rw [unescL_e]; rfl
theorem UnAt.esc {s : ByteArray} {k : Nat} {acc : List UInt8} (h : UnAt s.data.toList k acc) (hk : k < s.size) (hc : ((s[k].toNat : Int) == 92) = true) (he : k + 1 < s.size) : UnAt s.data.toList (k + 1 + 1) (acc ++ [s[k + 1]]) := by
  refine ⟨by have := h.1; simp; omega, ?_⟩
  rw [h.2, drop_cons s k hk, drop_cons s (k + 1) he, byte_eq (n := 92) hc (by omega)]; show Option.map _ (unescL (92 :: _ :: _)) = _
  rw [unescL_b, Option.map_map]; congr 1; funext x; simp
theorem UnAt.plain {s : ByteArray} {k : Nat} {acc : List UInt8} (h : UnAt s.data.toList k acc) (hk : k < s.size) (h1 : ((s[k].toNat : Int) == 34) = false) (h2 : ((s[k].toNat : Int) == 92) = false) : UnAt s.data.toList (k + 1) (acc ++ [s[k]]) := by
  refine ⟨by have := h.1; simp; omega, ?_⟩
  rw [h.2, drop_cons s k hk, unescL_o _ _ (byte_ne (n := 34) h1 (by omega)) (byte_ne (n := 92) h2 (by omega)), Option.map_map]; congr 1; funext x; simp

/-- a byte inside a quoted string -/
def escB (c : UInt8) : List UInt8 := if c = 34 ∨ c = 92 then [92, c] else [c]
def escL (l : List UInt8) : List UInt8 := l.flatMap escB
def quoteL (l : List UInt8) : List UInt8 := 34 :: (escL l ++ [34])
theorem escL_le (l : List UInt8) : (escL l).length ≤ 2 * l.length := by
  induction l with
  | nil => simp [escL]
  | cons c l ih =>
    have : (escB c).length ≤ 2 := by unfold escB; split <;> simp
    simp only [escL, List.flatMap_cons, List.length_append, List.length_cons] at *
    omega
theorem escL_le' (s : ByteArray) (k : Nat) : (escL (s.data.toList.take k)).length ≤ 2 * s.size := by
  have := escL_le (s.data.toList.take k)
  have h2 : (s.data.toList.take k).length ≤ s.data.toList.length := by rw [List.length_take]; omega
  have h3 : s.data.toList.length = s.size := by simp
  omega
theorem escL_snoc (l : List UInt8) (c : UInt8) : escL (l ++ [c]) = escL l ++ escB c := by simp [escL]
theorem esc_plain {s : ByteArray} {k : Nat} (hk : k < s.size) (h1 : ((s[k].toNat : Int) == 34) = false) (h2 : ((s[k].toNat : Int) == 92) = false) : escL (s.data.toList.take (k + 1)) = escL (s.data.toList.take k) ++ [s[k]] := by
  rw [take_snoc s k hk, escL_snoc]; congr 1
  unfold escB; rw [if_neg]; rintro (h | h)
  · exact byte_ne (n := 34) h1 (by omega) h
  · exact byte_ne (n := 92) h2 (by omega) h
theorem esc_q {s : ByteArray} {k : Nat} (hk : k < s.size) (h1 : ((s[k].toNat : Int) == 34) = true) : escL (s.data.toList.take (k + 1)) = escL (s.data.toList.take k) ++ [92] ++ [s[k]] := by
  rw [take_snoc s k hk, escL_snoc, List.append_assoc]; congr 1
  unfold escB; rw [if_pos (.inl (byte_eq (n := 34) h1 (by omega)))]; rfl
theorem esc_b {s : ByteArray} {k : Nat} (hk : k < s.size) (h1 : ((s[k].toNat : Int) == 92) = true) : escL (s.data.toList.take (k + 1)) = escL (s.data.toList.take k) ++ [92] ++ [s[k]] := by
  rw [take_snoc s k hk, escL_snoc, List.append_assoc]; congr 1
  unfold escB; rw [if_pos (.inr (byte_eq (n := 92) h1 (by omega)))]; rfl

/-- the string of which a list of bytes is a quoted form -/
def unqIn (l : List UInt8) : Option (List UInt8) := if textL l = true then unescL l else none
def unqL (l : List UInt8) : Option (List UInt8) :=
  if l.length < 2 ∨ l.getD 0 0 ≠ 34 ∨ l.getD (l.length - 1) 0 ≠ 34 then none else unqIn ((l.take (l.length - 1)).drop 1)
theorem getD_at (s : ByteArray) (k : Nat) (h : k < s.size) : s.data.toList.getD k 0 = s[k] := by
  rw [List.getD_eq_getElem?_getD, List.getElem?_eq_getElem (by simpa using h)]; rfl
theorem unq_short {s : ByteArray} (h : s.size < 2) : unqL s.data.toList = none := by
  unfold unqL; rw [if_pos (.inl (by simpa using h))]
theorem unq_head {s : ByteArray} (hp : 0 < s.size) (h : ¬ ((s[0]'hp).toNat : Int) = 34) : unqL s.data.toList = none := by
  have hn : s.data.toList.getD 0 0 ≠ 34 := by rw [getD_at s 0 hp]; intro e; rw [e] at h; exact h rfl
  unfold unqL; rw [if_pos (.inr (.inl hn))]
theorem unq_last {s : ByteArray} (hp : s.size - 1 < s.size) (h : (((s[s.size - 1]'hp).toNat : Int) != 34) = true) : unqL s.data.toList = none := by
  have hz : s.data.toList.length = s.size := by simp
  have hn : s.data.toList.getD (s.data.toList.length - 1) 0 ≠ 34 := by rw [hz, getD_at s _ hp]; intro e; rw [e] at h; cases h
  unfold unqL; rw [if_pos (.inr (.inr hn))]
theorem unq_in {s : ByteArray} (h2 : ¬ s.size < 2) (hp : 0 < s.size) (h0 : ((s[0]'hp).toNat : Int) = 34) (hq : s.size - 1 < s.size) (h1 : (((s[s.size - 1]'hq).toNat : Int) != 34) = false) :
    unqL s.data.toList = unqIn (s.extract 1 (s.size - 1)).data.toList := by
  have hz : s.data.toList.length = s.size := by simp
  have e0 : s[0] = 34 := by
    have : s[0].toNat = 34 := by omega
    exact UInt8.toNat_inj.mp (by simpa using this)
  have e1 : s[s.size - 1] = 34 := byte_eq (n := 34) (by simpa using h1) (by omega)
  unfold unqL
  rw [hz, if_neg]
  · congr 1
    rw [ByteArray.data_extract, Array.toList_extract, List.extract_eq_take_drop, List.drop_take]
  · rw [getD_at s 0 hp, getD_at s _ hq, e0, e1]; simp; omega
theorem unqIn_text {l : List UInt8} (h : textL l = true) : unqIn l = unescL l := by unfold unqIn; rw [if_pos h]
theorem unqIn_not {l : List UInt8} (h : textL l = false) : unqIn l = none := by unfold unqIn; rw [h]; rfl
theorem unqIn_none {l : List UInt8} (h : unescL l = none) : unqIn l = none := by unfold unqIn; split <;> simp [h]

/-- the last decimal digit of m, as a byte -/
def digB (m : Nat) : UInt8 := UInt8.ofNat (48 + m % 10)
/-- the decimal digits of m ahead of acc, at most f of them, at least one -/
def decF : Nat → Nat → List UInt8 → List UInt8
  | 0, _, acc => acc
  | f + 1, m, acc => if m / 10 = 0 then digB m :: acc else decF f (m / 10) (digB m :: acc)
def decL (n : Int) : List UInt8 := if n < 0 then 45 :: decF 20 n.natAbs [] else decF 20 n.natAbs []

/-- the digits acc have been written, m is left of N -/
def DecAt (N m : Nat) (acc : List UInt8) : Prop :=
  decF (20 - acc.length) m acc = decF 20 N [] ∧ m * 10 ^ acc.length ≤ 9223372036854775808 ∧ (acc.length = 0 ∨ 1 ≤ m)
theorem DecAt.start {N : Nat} (h : N ≤ 9223372036854775808) : DecAt N N [] := ⟨rfl, by simpa using h, .inl rfl⟩
theorem DecAt.len {N m : Nat} {acc : List UInt8} (h : DecAt N m acc) : acc.length ≤ 18 := by
  rcases h.2.2 with h0 | h1
  · omega
  · rcases Nat.lt_or_ge 18 acc.length with hl | hl
    · have a1 : 10 ^ 19 ≤ 10 ^ acc.length := Nat.pow_le_pow_right (by omega) hl
      have a2 : 10 ^ acc.length ≤ m * 10 ^ acc.length := Nat.le_mul_of_pos_left _ h1
      have a3 := h.2.1
      omega
    · exact hl
theorem DecAt.step {N m : Nat} {acc : List UInt8} (h : DecAt N m acc) (hm : ¬ m / 10 = 0) : DecAt N (m / 10) (digB m :: acc) := by
  have hl := h.len
  refine ⟨?_, ?_, .inr (by omega)⟩
  · rw [← h.1]
    obtain ⟨f, hf⟩ : ∃ f, 20 - acc.length = f + 1 := ⟨19 - acc.length, by omega⟩
    have hf' : 20 - (digB m :: acc).length = f := by simp; omega
    rw [hf', hf]; simp only [decF]; rw [if_neg hm]
  · have h1 : m / 10 * 10 ^ (acc.length + 1) = (m / 10 * 10) * 10 ^ acc.length := by rw [Nat.pow_succ]; rw [Nat.mul_assoc, Nat.mul_comm (10 ^ acc.length) 10, ← Nat.mul_assoc]
    have h2 : m / 10 * 10 ≤ m := by omega
    have h3 : (m / 10 * 10) * 10 ^ acc.length ≤ m * 10 ^ acc.length := Nat.mul_le_mul_right _ h2
    have h4 := h.2.1
    rw [List.length_cons, h1]; omega
theorem DecAt.fin {N m : Nat} {acc : List UInt8} (h : DecAt N m acc) (hm : m / 10 = 0) : decF 20 N [] = digB m :: acc := by
  have hl := h.len
  rw [← h.1]
  obtain ⟨f, hf⟩ : ∃ f, 20 - acc.length = f + 1 := ⟨19 - acc.length, by omega⟩
  rw [hf]; simp only [decF]; rw [if_pos hm]
theorem dig_toNat (m : Nat) : ((digB m).toNat : Int) = 48 + (m : Int) % 10 := by
  unfold digB; rw [UInt8.toNat_ofNat']; omega
/-- what stands in the buffer: p zeros, then acc -/
def zbuf (p : Nat) (acc : List UInt8) : List UInt8 := List.replicate p 0 ++ acc
theorem zbuf_set {p : Nat} {acc : List UInt8} (c : UInt8) (hp : 1 ≤ p) : (zbuf p acc).set (p - 1) c = zbuf (p - 1) (c :: acc) := by
  obtain ⟨q, rfl⟩ : ∃ q, p = q + 1 := ⟨p - 1, by omega⟩
  unfold zbuf
  rw [Nat.add_sub_cancel, List.replicate_succ', List.append_assoc, List.set_append_right _ _ (by simp), List.length_replicate, Nat.sub_self]
  rfl

end Go.Proofs.Ytlcojfkkeommoaa.Asc
