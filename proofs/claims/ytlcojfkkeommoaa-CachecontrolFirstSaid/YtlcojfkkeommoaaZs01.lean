/- Merged texts: AscSpec AscSpec2 StaSpec AscSpec3 FieSpec LisSpec LisSpec2. -/
import Derived.Laws.Strings
import Derived.Lib.IndexLaws
set_option linter.unusedVariables false
set_option linter.unusedSimpArgs false
set_option maxRecDepth 100000
namespace Go.Proofs.Ytlcojfkkeommoaa.Asc
section
def letterI (b : Int) : Bool := decide (97 ≤ b ∧ b ≤ 122) || decide (65 ≤ b ∧ b ≤ 90)
def digitI (b : Int) : Bool := decide (48 ≤ b ∧ b ≤ 57)
def signI (b : Int) : Bool := b == 33 || b == 35 || b == 36 || b == 37 || b == 38 || b == 39 || b == 42 || b == 43 || b == 45 || b == 46 || b == 94 || b == 95 || b == 96 || b == 124 || b == 126
def signL : List Int := [33, 35, 36, 37, 38, 39, 42, 43, 45, 46, 94, 95, 96, 124, 126]
def tokI (b : Int) : Bool := signI b || letterI b || digitI b
theorem sign_at : ∀ k : Fin 15, ((⟨#[33, 35, 36, 37, 38, 39, 42, 43, 45, 46, 94, 95, 96, 124, 126]⟩ : ByteArray).data[k.1]).toNat = signL.getD k.1 0 := by decide
theorem sign_yes {b : Int} {k : Nat} (hk : k < 15) (h : ((((⟨#[33, 35, 36, 37, 38, 39, 42, 43, 45, 46, 94, 95, 96, 124, 126]⟩ : ByteArray)[k]'hk).toNat : Int) == b) = true) : tokI b = true := by
  have e : ((((⟨#[33, 35, 36, 37, 38, 39, 42, 43, 45, 46, 94, 95, 96, 124, 126]⟩ : ByteArray)[k]'hk).toNat : Int)) = signL.getD k 0 := sign_at ⟨k, hk⟩
  rw [e] at h
  have h' : signL.getD k 0 = b := by simpa using h
  have hs : ∀ k : Fin 15, signI (signL.getD k.1 0) = true := by decide
  have := hs ⟨k, hk⟩
  simp only [h'] at this
  simp [tokI, this]
theorem sign_more {b : Int} {k : Nat} (hno : ∀ j < k, signL.getD j 0 ≠ b) (hk : k < 15) (h : ((((⟨#[33, 35, 36, 37, 38, 39, 42, 43, 45, 46, 94, 95, 96, 124, 126]⟩ : ByteArray)[k]'hk).toNat : Int) == b) = false) : ∀ j < k + 1, signL.getD j 0 ≠ b := by
  have e : ((((⟨#[33, 35, 36, 37, 38, 39, 42, 43, 45, 46, 94, 95, 96, 124, 126]⟩ : ByteArray)[k]'hk).toNat : Int)) = signL.getD k 0 := sign_at ⟨k, hk⟩
  rw [e] at h
  have h' : ¬ signL.getD k 0 = b := by simpa using h
  intro j hj
  rcases Nat.lt_succ_iff_lt_or_eq.mp hj with h1 | rfl
  · exact hno j h1
  · exact h'
theorem sign_no {b : Int} {k : Nat} (hno : ∀ j < k, signL.getD j 0 ≠ b) (hk : 15 ≤ k) (hl : (letterI b || digitI b) = false) : tokI b = false := by
  have h : signI b = false := by
    have a := fun j (hj : j < 15) => hno j (by omega)
    have a0 := a 0 (by omega); have a1 := a 1 (by omega); have a2 := a 2 (by omega); have a3 := a 3 (by omega); have a4 := a 4 (by omega)
    have a5 := a 5 (by omega); have a6 := a 6 (by omega); have a7 := a 7 (by omega); have a8 := a 8 (by omega); have a9 := a 9 (by omega)
    have a10 := a 10 (by omega); have a11 := a 11 (by omega); have a12 := a 12 (by omega); have a13 := a 13 (by omega); have a14 := a 14 (by omega)
    simp [signL] at a0 a1 a2 a3 a4 a5 a6 a7 a8 a9 a10 a11 a12 a13 a14
    simp [signI]
    omega
  simp only [tokI, h, Bool.false_or]; exact hl
def textI (b : Int) : Bool := b == 9 || decide (32 ≤ b ∧ b ≤ 126) || decide (128 ≤ b)
def blankI (b : Int) : Bool := b == 32 || b == 9
def lowI (b : Int) : Int := if 65 ≤ b ∧ b ≤ 90 then b + 32 else b
/-- every byte of the list has the property -/
def allI (p : Int → Bool) (l : List UInt8) : Bool := l.all fun c => p c.toNat
def tokL (l : List UInt8) : Bool := !l.isEmpty && allI tokI l
def textL (l : List UInt8) : Bool := allI textI l
def lowL (l : List UInt8) : List UInt8 := l.map fun c => UInt8.ofNat (lowI c.toNat).toNat
theorem allI_snoc (p : Int → Bool) (l : List UInt8) (c : UInt8) : allI p (l ++ [c]) = (allI p l && p c.toNat) := by simp [allI]
theorem take_snoc (s : ByteArray) (k : Nat) (h : k < s.size) : s.data.toList.take (k + 1) = s.data.toList.take k ++ [s[k]] := by
  rw [List.take_succ_eq_append_getElem (by simpa using h)]; rfl
theorem all_more {p : Int → Bool} {s : ByteArray} {k : Nat} (h : allI p (s.data.toList.take k) = true) (hk : k < s.size) (hp : p (s[k].toNat) = true) : allI p (s.data.toList.take (k + 1)) = true := by
  rw [take_snoc s k hk, allI_snoc, h, hp]; rfl
theorem all_not {p : Int → Bool} {s : ByteArray} {k : Nat} (hk : k < s.size) (hp : p (s[k].toNat) = false) : allI p s.data.toList = false := by
  rw [← Bool.not_eq_true]; intro h
  have := List.all_eq_true.mp h s[k] (by exact List.getElem_mem (l := s.data.toList) (by simpa using hk))
  rw [hp] at this; cases this
theorem all_end {p : Int → Bool} {s : ByteArray} {k : Nat} (h : allI p (s.data.toList.take k) = true) (hk : s.size ≤ k) : allI p s.data.toList = true := by
  rwa [List.take_of_length_le (by simpa using hk)] at h
/-- the inside of a quoted string, its backslashes resolved -/
def unescL : List UInt8 → Option (List UInt8)
  | [] => some []
  | [c] => if c = 34 ∨ c = 92 then none else some [c]
  | c :: d :: r => if c = 34 then none else if c = 92 then (unescL r).map (d :: ·) else (unescL (d :: r)).map (c :: ·)
theorem unescL_q (r : List UInt8) : unescL (34 :: r) = none := by cases r <;> simp [unescL]
theorem unescL_e : unescL [92] = none := by simp [unescL]
theorem unescL_b (d : UInt8) (r : List UInt8) : unescL (92 :: d :: r) = (unescL r).map (d :: ·) := by simp [unescL]
theorem unescL_o (c : UInt8) (r : List UInt8) (h1 : c ≠ 34) (h2 : c ≠ 92) : unescL (c :: r) = (unescL r).map (c :: ·) := by
  cases r <;> simp [unescL, h1, h2]
theorem drop_cons (s : ByteArray) (k : Nat) (h : k < s.size) : s.data.toList.drop k = s[k] :: s.data.toList.drop (k + 1) := by
  rw [List.drop_eq_getElem_cons (by simpa using h)]; rfl
/-- what has been read so far is acc, what is left is the list from k on -/
def UnAt (l : List UInt8) (k : Nat) (acc : List UInt8) : Prop := acc.length ≤ k ∧ unescL l = (unescL (l.drop k)).map (acc ++ ·)
theorem UnAt.start (l : List UInt8) : UnAt l 0 [] := ⟨by simp, by simp⟩
theorem UnAt.fin {l : List UInt8} {k : Nat} {acc : List UInt8} (h : UnAt l k acc) (hk : l.length ≤ k) : unescL l = some acc := by
  rw [h.2, List.drop_of_length_le hk]; simp [unescL]
theorem byte_eq {c : UInt8} {n : Nat} (h : ((c.toNat : Int) == (n : Int)) = true) (hn : n < 256) : c = UInt8.ofNat n := by
  have : c.toNat = n := by have := eq_of_beq h; omega
  rw [← this]; simp
theorem byte_ne {c : UInt8} {n : Nat} (h : ((c.toNat : Int) == (n : Int)) = false) (hn : n < 256) : c ≠ UInt8.ofNat n := by
  intro e; subst e
  rw [UInt8.toNat_ofNat'] at h
  simp [Nat.mod_eq_of_lt hn] at h
theorem UnAt.quote {s : ByteArray} {k : Nat} {acc : List UInt8} (h : UnAt s.data.toList k acc) (hk : k < s.size) (hc : ((s[k].toNat : Int) == 34) = true) : unescL s.data.toList = none := by
  rw [h.2, drop_cons s k hk, byte_eq (n := 34) hc (by omega)]; show Option.map _ (unescL (34 :: _)) = none; rw [unescL_q]; rfl
theorem UnAt.last {s : ByteArray} {k : Nat} {acc : List UInt8} (h : UnAt s.data.toList k acc) (hk : k < s.size) (hc : ((s[k].toNat : Int) == 92) = true) (he : s.size ≤ k + 1) : unescL s.data.toList = none := by
  rw [h.2, drop_cons s k hk, byte_eq (n := 92) hc (by omega), List.drop_of_length_le (by simpa using he)]; show Option.map _ (unescL [92]) = none; rw [unescL_e]; rfl
theorem UnAt.esc {s : ByteArray} {k : Nat} {acc : List UInt8} (h : UnAt s.data.toList k acc) (hk : k < s.size) (hc : ((s[k].toNat : Int) == 92) = true) (he : k + 1 < s.size) : UnAt s.data.toList (k + 1 + 1) (acc ++ [s[k + 1]]) := by
  refine ⟨by have := h.1; simp; omega, ?_⟩
  rw [h.2, drop_cons s k hk, drop_cons s (k + 1) he, byte_eq (n := 92) hc (by omega)]; show Option.map _ (unescL (92 :: _ :: _)) = _
  rw [unescL_b, Option.map_map]; congr 1; funext x; simp
theorem UnAt.plain {s : ByteArray} {k : Nat} {acc : List UInt8} (h : UnAt s.data.toList k acc) (hk : k < s.size) (h1 : ((s[k].toNat : Int) == 34) = false) (h2 : ((s[k].toNat : Int) == 92) = false) : UnAt s.data.toList (k + 1) (acc ++ [s[k]]) := by
  refine ⟨by have := h.1; simp; omega, ?_⟩
  rw [h.2, drop_cons s k hk, unescL_o _ _ (byte_ne (n := 34) h1 (by omega)) (byte_ne (n := 92) h2 (by omega)), Option.map_map]; congr 1; funext x; simp
/-- a byte inside a quoted string -/
def escB (c : UInt8) : List UInt8 := if c = 34 ∨ c = 92 then [92, c] else [c]
def escL (l : List UInt8) : List UInt8 := l.flatMap escB
def quoteL (l : List UInt8) : List UInt8 := 34 :: (escL l ++ [34])
theorem escL_le (l : List UInt8) : (escL l).length ≤ 2 * l.length := by
  induction l with
  | nil => simp [escL]
  | cons c l ih =>
    have : (escB c).length ≤ 2 := by unfold escB; split <;> simp
    simp only [escL, List.flatMap_cons, List.length_append, List.length_cons] at *
    omega
theorem escL_le' (s : ByteArray) (k : Nat) : (escL (s.data.toList.take k)).length ≤ 2 * s.size := by
  have := escL_le (s.data.toList.take k)
  have h2 : (s.data.toList.take k).length ≤ s.data.toList.length := by rw [List.length_take]; omega
  have h3 : s.data.toList.length = s.size := by simp
  omega
theorem escL_snoc (l : List UInt8) (c : UInt8) : escL (l ++ [c]) = escL l ++ escB c := by simp [escL]
theorem esc_plain {s : ByteArray} {k : Nat} (hk : k < s.size) (h1 : ((s[k].toNat : Int) == 34) = false) (h2 : ((s[k].toNat : Int) == 92) = false) : escL (s.data.toList.take (k + 1)) = escL (s.data.toList.take k) ++ [s[k]] := by
  rw [take_snoc s k hk, escL_snoc]; congr 1
  unfold escB; rw [if_neg]; rintro (h | h)
  · exact byte_ne (n := 34) h1 (by omega) h
  · exact byte_ne (n := 92) h2 (by omega) h
theorem esc_q {s : ByteArray} {k : Nat} (hk : k < s.size) (h1 : ((s[k].toNat : Int) == 34) = true) : escL (s.data.toList.take (k + 1)) = escL (s.data.toList.take k) ++ [92] ++ [s[k]] := by
  rw [take_snoc s k hk, escL_snoc, List.append_assoc]; congr 1
  unfold escB; rw [if_pos (.inl (byte_eq (n := 34) h1 (by omega)))]; rfl
theorem esc_b {s : ByteArray} {k : Nat} (hk : k < s.size) (h1 : ((s[k].toNat : Int) == 92) = true) : escL (s.data.toList.take (k + 1)) = escL (s.data.toList.take k) ++ [92] ++ [s[k]] := by
  rw [take_snoc s k hk, escL_snoc, List.append_assoc]; congr 1
  unfold escB; rw [if_pos (.inr (byte_eq (n := 92) h1 (by omega)))]; rfl
/-- the string of which a list of bytes is a quoted form -/
def unqIn (l : List UInt8) : Option (List UInt8) := if textL l = true then unescL l else none
def unqL (l : List UInt8) : Option (List UInt8) :=
  if l.length < 2 ∨ l.getD 0 0 ≠ 34 ∨ l.getD (l.length - 1) 0 ≠ 34 then none else unqIn ((l.take (l.length - 1)).drop 1)
theorem getD_at (s : ByteArray) (k : Nat) (h : k < s.size) : s.data.toList.getD k 0 = s[k] := by
  rw [List.getD_eq_getElem?_getD, List.getElem?_eq_getElem (by simpa using h)]; rfl
theorem unq_short {s : ByteArray} (h : s.size < 2) : unqL s.data.toList = none := by
  unfold unqL; rw [if_pos (.inl (by simpa using h))]
theorem unq_head {s : ByteArray} (hp : 0 < s.size) (h : ¬ ((s[0]'hp).toNat : Int) = 34) : unqL s.data.toList = none := by
  have hn : s.data.toList.getD 0 0 ≠ 34 := by rw [getD_at s 0 hp]; intro e; rw [e] at h; exact h rfl
  unfold unqL; rw [if_pos (.inr (.inl hn))]
theorem unq_last {s : ByteArray} (hp : s.size - 1 < s.size) (h : (((s[s.size - 1]'hp).toNat : Int) != 34) = true) : unqL s.data.toList = none := by
  have hz : s.data.toList.length = s.size := by simp
  have hn : s.data.toList.getD (s.data.toList.length - 1) 0 ≠ 34 := by rw [hz, getD_at s _ hp]; intro e; rw [e] at h; cases h
  unfold unqL; rw [if_pos (.inr (.inr hn))]
theorem unq_in {s : ByteArray} (h2 : ¬ s.size < 2) (hp : 0 < s.size) (h0 : ((s[0]'hp).toNat : Int) = 34) (hq : s.size - 1 < s.size) (h1 : (((s[s.size - 1]'hq).toNat : Int) != 34) = false) :
    unqL s.data.toList = unqIn (s.extract 1 (s.size - 1)).data.toList := by
  have hz : s.data.toList.length = s.size := by simp
  have e0 : s[0] = 34 := by
    have : s[0].toNat = 34 := by omega
    exact UInt8.toNat_inj.mp (by simpa using this)
  have e1 : s[s.size - 1] = 34 := byte_eq (n := 34) (by simpa using h1) (by omega)
  unfold unqL
  rw [hz, if_neg]
  · congr 1
    rw [ByteArray.data_extract, Array.toList_extract, List.extract_eq_take_drop, List.drop_take]
  · rw [getD_at s 0 hp, getD_at s _ hq, e0, e1]; simp; omega
theorem unqIn_text {l : List UInt8} (h : textL l = true) : unqIn l = unescL l := by unfold unqIn; rw [if_pos h]
theorem unqIn_not {l : List UInt8} (h : textL l = false) : unqIn l = none := by unfold unqIn; rw [h]; rfl
theorem unqIn_none {l : List UInt8} (h : unescL l = none) : unqIn l = none := by unfold unqIn; split <;> simp [h]
/-- the last decimal digit of m, as a byte -/
def digB (m : Nat) : UInt8 := UInt8.ofNat (48 + m % 10)
/-- the decimal digits of m ahead of acc, at most f of them, at least one -/
def decF : Nat → Nat → List UInt8 → List UInt8
  | 0, _, acc => acc
  | f + 1, m, acc => if m / 10 = 0 then digB m :: acc else decF f (m / 10) (digB m :: acc)
def decL (n : Int) : List UInt8 := if n < 0 then 45 :: decF 20 n.natAbs [] else decF 20 n.natAbs []
/-- the digits acc have been written, m is left of N -/
def DecAt (N m : Nat) (acc : List UInt8) : Prop :=
  decF (20 - acc.length) m acc = decF 20 N [] ∧ m * 10 ^ acc.length ≤ 9223372036854775808 ∧ (acc.length = 0 ∨ 1 ≤ m)
theorem DecAt.start {N : Nat} (h : N ≤ 9223372036854775808) : DecAt N N [] := ⟨rfl, by simpa using h, .inl rfl⟩
theorem DecAt.len {N m : Nat} {acc : List UInt8} (h : DecAt N m acc) : acc.length ≤ 18 := by
  rcases h.2.2 with h0 | h1
  · omega
  · rcases Nat.lt_or_ge 18 acc.length with hl | hl
    · have a1 : 10 ^ 19 ≤ 10 ^ acc.length := Nat.pow_le_pow_right (by omega) hl
      have a2 : 10 ^ acc.length ≤ m * 10 ^ acc.length := Nat.le_mul_of_pos_left _ h1
      have a3 := h.2.1
      omega
    · exact hl
theorem DecAt.step {N m : Nat} {acc : List UInt8} (h : DecAt N m acc) (hm : ¬ m / 10 = 0) : DecAt N (m / 10) (digB m :: acc) := by
  have hl := h.len
  refine ⟨?_, ?_, .inr (by omega)⟩
  · rw [← h.1]
    obtain ⟨f, hf⟩ : ∃ f, 20 - acc.length = f + 1 := ⟨19 - acc.length, by omega⟩
    have hf' : 20 - (digB m :: acc).length = f := by simp; omega
    rw [hf', hf]; simp only [decF]; rw [if_neg hm]
  · have h1 : m / 10 * 10 ^ (acc.length + 1) = (m / 10 * 10) * 10 ^ acc.length := by rw [Nat.pow_succ]; rw [Nat.mul_assoc, Nat.mul_comm (10 ^ acc.length) 10, ← Nat.mul_assoc]
    have h2 : m / 10 * 10 ≤ m := by omega
    have h3 : (m / 10 * 10) * 10 ^ acc.length ≤ m * 10 ^ acc.length := Nat.mul_le_mul_right _ h2
    have h4 := h.2.1
    rw [List.length_cons, h1]; omega
theorem DecAt.fin {N m : Nat} {acc : List UInt8} (h : DecAt N m acc) (hm : m / 10 = 0) : decF 20 N [] = digB m :: acc := by
  have hl := h.len
  rw [← h.1]
  obtain ⟨f, hf⟩ : ∃ f, 20 - acc.length = f + 1 := ⟨19 - acc.length, by omega⟩
  rw [hf]; simp only [decF]; rw [if_pos hm]
theorem dig_toNat (m : Nat) : ((digB m).toNat : Int) = 48 + (m : Int) % 10 := by
  unfold digB; rw [UInt8.toNat_ofNat']; omega
end
section
def foldL (a b : List UInt8) : Bool := decide (lowL a = lowL b)
def lowB (c : UInt8) : UInt8 := UInt8.ofNat (lowI c.toNat).toNat
theorem lowL_map (l : List UInt8) : lowL l = l.map lowB := rfl
theorem lowB_inj {c d : UInt8} (h : lowI c.toNat = lowI d.toNat) : lowB c = lowB d := by unfold lowB; rw [h]
theorem lowI_of {c d : UInt8} (h : lowB c = lowB d) : lowI c.toNat = lowI d.toNat := by
  have hb : ∀ x : UInt8, ((lowB x).toNat : Int) = lowI x.toNat := fun x => by
    have := x.toNat_lt
    unfold lowB; rw [UInt8.toNat_ofNat']
    unfold lowI; split <;> omega
  rw [← hb, ← hb, h]
theorem fold_len {a b : ByteArray} (h : ¬ a.size = b.size) : foldL a.data.toList b.data.toList = false := by
  unfold foldL; rw [decide_eq_false]; intro e
  have := congrArg List.length e
  simp [lowL] at this; exact h this
theorem fold_more {a b : ByteArray} {k : Nat} (h : lowL (a.data.toList.take k) = lowL (b.data.toList.take k)) (ha : k < a.size) (hb : k < b.size) (hc : lowI a[k].toNat = lowI b[k].toNat) : lowL (a.data.toList.take (k + 1)) = lowL (b.data.toList.take (k + 1)) := by
  rw [take_snoc a k ha, take_snoc b k hb]
  simp only [lowL_map] at h ⊢
  rw [List.map_append, List.map_append, h, List.map_cons, List.map_cons, lowB_inj hc]
theorem fold_not {a b : ByteArray} {k : Nat} (ha : k < a.size) (hb : k < b.size) (hc : ¬ lowI a[k].toNat = lowI b[k].toNat) : foldL a.data.toList b.data.toList = false := by
  unfold foldL; rw [decide_eq_false]; intro e
  have h1 := congrArg (fun l : List UInt8 => l[k]?) e
  rw [lowL_map, lowL_map] at h1
  simp only [List.getElem?_map] at h1
  rw [List.getElem?_eq_getElem (by simpa using ha), List.getElem?_eq_getElem (by simpa using hb)] at h1
  simp only [Option.map_some, Option.some.injEq] at h1
  exact hc (lowI_of h1)
theorem fold_end {a b : ByteArray} {k : Nat} (h : lowL (a.data.toList.take k) = lowL (b.data.toList.take k)) (ha : a.size ≤ k) (hb : b.size ≤ k) : foldL a.data.toList b.data.toList = true := by
  rw [List.take_of_length_le (by simpa using ha), List.take_of_length_le (by simpa using hb)] at h
  unfold foldL; rw [decide_eq_true h]
def satI (v d : Int) : Int := if v * 10 + d > 2147483647 then 2147483647 else v * 10 + d
def numF (l : List UInt8) : Int := l.foldl (fun v c => satI v ((c.toNat : Int) - 48)) 0
def numL (l : List UInt8) : Option Int := if allI digitI l = true ∧ l ≠ [] then some (numF l) else none
theorem digitI_bd {b : Int} (h : digitI b = true) : 48 ≤ b ∧ b ≤ 57 := by simpa [digitI] using h
theorem satI_bd {v d : Int} (h0 : 0 ≤ v) (h1 : 0 ≤ d) : 0 ≤ satI v d ∧ satI v d ≤ 2147483647 := by unfold satI; split <;> omega
theorem numF_snoc (l : List UInt8) (c : UInt8) : numF (l ++ [c]) = satI (numF l) ((c.toNat : Int) - 48) := by simp [numF]
theorem numF_more {s : ByteArray} {k : Nat} (hk : k < s.size) : numF (s.data.toList.take (k + 1)) = satI (numF (s.data.toList.take k)) ((s[k].toNat : Int) - 48) := by
  rw [take_snoc s k hk, numF_snoc]
theorem num_not {s : ByteArray} {k : Nat} (hk : k < s.size) (hp : digitI (s[k].toNat) = false) : numL s.data.toList = none := by
  unfold numL; rw [if_neg]; rintro ⟨h, _⟩; rw [all_not hk hp] at h; cases h
def numV : Option Int → Int × Bool
  | none => (0, false)
  | some n => (n, true)
theorem num_end {s : ByteArray} {k : Nat} (h : allI digitI (s.data.toList.take k) = true) (hk : s.size ≤ k) : numV (numL s.data.toList) = (numF (s.data.toList.take k), !s.toList.isEmpty) := by
  have h1 := all_end h hk
  rw [List.take_of_length_le (by simpa using hk), show s.toList = s.data.toList from Go.ByteArray.toList_eq s]
  unfold numL
  rcases hl : s.data.toList with _ | ⟨c, r⟩
  · simp [numV, numF]
  · rw [hl] at h1
    rw [if_pos ⟨h1, by simp⟩]; rfl
def blankB (c : UInt8) : Bool := blankI c.toNat
def trimL (l : List UInt8) : List UInt8 := ((l.dropWhile blankB).reverse.dropWhile blankB).reverse
theorem dropW (a m : List UInt8) (ha : ∀ c ∈ a, blankB c = true) (hm : ∀ c r, m = c :: r → blankB c = false) : (a ++ m).dropWhile blankB = m := by
  induction a with
  | nil =>
    rcases m with _ | ⟨c, r⟩
    · rfl
    · simp [hm c r rfl]
  | cons c a ih =>
    simp only [List.cons_append, List.dropWhile_cons, ha c (by simp)]
    exact ih fun d hd => ha d (by simp [hd])
theorem trim_char (a m b : List UInt8) (ha : ∀ c ∈ a, blankB c = true) (hb : ∀ c ∈ b, blankB c = true) (h1 : ∀ c r, m = c :: r → blankB c = false) (h2 : ∀ c r, m = r ++ [c] → blankB c = false) : trimL (a ++ (m ++ b)) = m := by
  unfold trimL
  rcases hm : m with _ | ⟨c, r⟩
  · have : (a ++ ([] ++ b)).dropWhile blankB = [] := by
      have := dropW (a ++ b) [] (by intro c hc; rcases List.mem_append.mp hc with h | h; exact ha c h; exact hb c h) (by intro c r h; cases h)
      simpa using this
    rw [this]; rfl
  · rw [dropW a _ ha (by intro d q h; rw [List.cons_append] at h; injection h with e _; exact e ▸ h1 c r hm)]
    rw [List.reverse_append, dropW b.reverse _ (by intro d hd; exact hb d (List.mem_reverse.mp hd)) ?_, List.reverse_reverse]
    intro d q h
    have e2 : c :: r = q.reverse ++ [d] := by
      have := congrArg List.reverse h
      simpa using this
    exact h2 d q.reverse (hm.trans e2)
/-- the bounds of what is left: start and end -/
def TrimAt (l : List UInt8) (k e : Nat) : Prop :=
  k ≤ e ∧ e ≤ l.length ∧ (∀ j, j < k → blankB (l.getD j 0) = true) ∧ (∀ j, e ≤ j → j < l.length → blankB (l.getD j 0) = true) ∧ (k < l.length → blankB (l.getD k 0) = false) ∧ (k < e → blankB (l.getD (e - 1) 0) = false)
theorem ex_start (l : List UInt8) : ∀ m k, l.length = k + m → (∀ j, j < k → blankB (l.getD j 0) = true) → ∃ k', k' ≤ l.length ∧ (∀ j, j < k' → blankB (l.getD j 0) = true) ∧ (k' < l.length → blankB (l.getD k' 0) = false)
  | 0, k, h, hk => ⟨k, by omega, hk, by omega⟩
  | m + 1, k, h, hk => by
    rcases hb : blankB (l.getD k 0) with _ | _
    · exact ⟨k, by omega, hk, fun _ => hb⟩
    · exact ex_start l m (k + 1) (by omega) fun j hj => by
        rcases Nat.lt_succ_iff_lt_or_eq.mp hj with h1 | rfl
        · exact hk j h1
        · exact hb
theorem ex_end (l : List UInt8) (k : Nat) : ∀ m e, e = k + m → e ≤ l.length → (∀ j, e ≤ j → j < l.length → blankB (l.getD j 0) = true) → ∃ e', k ≤ e' ∧ e' ≤ l.length ∧ (∀ j, e' ≤ j → j < l.length → blankB (l.getD j 0) = true) ∧ (k < e' → blankB (l.getD (e' - 1) 0) = false)
  | 0, e, h, he, hk => ⟨e, by omega, he, hk, by omega⟩
  | m + 1, e, h, he, hk => by
    rcases hb : blankB (l.getD (e - 1) 0) with _ | _
    · exact ⟨e, by omega, he, hk, fun _ => hb⟩
    · exact ex_end l k m (e - 1) (by omega) (by omega) fun j hj hl => by
        by_cases e' : j = e - 1
        · subst e'; exact hb
        · exact hk j (by omega) hl
theorem ex_trim (l : List UInt8) : ∃ k e, TrimAt l k e := by
  obtain ⟨k, h1, h2, h3⟩ := ex_start l l.length 0 (by omega) (by intro j hj; omega)
  obtain ⟨e, h4, h5, h6, h7⟩ := ex_end l k (l.length - k) l.length (by omega) (Nat.le_refl _) (by intro j hj hl; omega)
  exact ⟨k, e, h4, h5, h2, h6, h3, h7⟩
theorem getD_mem {l : List UInt8} {c : UInt8} (h : c ∈ l) : ∃ j, j < l.length ∧ l.getD j 0 = c := by
  obtain ⟨j, hj, e⟩ := List.getElem_of_mem h
  exact ⟨j, hj, by simp [List.getD_eq_getElem?_getD, hj, e]⟩
theorem trim_at {l : List UInt8} {k e : Nat} (h : TrimAt l k e) : trimL l = (l.take e).drop k := by
  obtain ⟨h1, h2, h3, h4, h5, h6⟩ := h
  have hl : l = l.take k ++ ((l.take e).drop k ++ l.drop e) := by
    have e1 : (l.take e).take k = l.take k := by rw [List.take_take, Nat.min_eq_left h1]
    rw [← List.append_assoc]
    conv => lhs; rw [← List.take_append_drop e l, ← List.take_append_drop k (l.take e), e1]
  have hm : ∀ j, j < ((l.take e).drop k).length → ((l.take e).drop k).getD j 0 = l.getD (k + j) 0 := by
    intro j hj
    simp only [List.length_drop, List.length_take] at hj
    simp only [List.getD_eq_getElem?_getD, List.getElem?_drop]
    rw [List.getElem?_take_of_lt (by omega)]
  have hlen : ((l.take e).drop k).length = e - k := by simp only [List.length_drop, List.length_take]; omega
  conv => lhs; rw [hl]
  refine trim_char _ _ _ ?_ ?_ ?_ ?_
  · intro c hc
    obtain ⟨j, hj, rfl⟩ := getD_mem hc
    rw [List.length_take] at hj
    have := h3 j (by omega)
    simpa [List.getD_eq_getElem?_getD, List.getElem?_take_of_lt (show j < k by omega)] using this
  · intro c hc
    obtain ⟨j, hj, rfl⟩ := getD_mem hc
    rw [List.length_drop] at hj
    have := h4 (e + j) (by omega) (by omega)
    simpa [List.getD_eq_getElem?_getD, List.getElem?_drop] using this
  · intro c r hcr
    have := hm 0 (by rw [hcr]; simp)
    rw [hcr] at this
    have e2 : c = l.getD k 0 := by simpa using this
    rw [e2]; refine h5 ?_
    have : 0 < e - k := by rw [← hlen, hcr]; simp
    omega
  · intro c r hcr
    have hr : e - k = r.length + 1 := by rw [← hlen, hcr]; simp
    have := hm r.length (by rw [hcr]; simp)
    rw [hcr] at this
    have e2 : c = l.getD (k + r.length) 0 := by simpa [List.getD_eq_getElem?_getD] using this
    rw [e2, show k + r.length = e - 1 by omega]; exact h6 (by omega)
end
section
/-- a string out of a list of bytes, as a word that no rule opens -/
def bs (l : List UInt8) : ByteArray := ⟨l.toArray⟩
theorem bs_toList (l : List UInt8) : (bs l).data.toList = l := rfl
theorem bs_size (l : List UInt8) : (bs l).size = l.length := rfl
theorem bs_of (s : ByteArray) : s = bs s.data.toList := rfl
theorem toList_bs (l : List UInt8) : (bs l).toList = l := by rw [ByteArray.toList_eq]; rfl
theorem toList_data (s : ByteArray) : s.toList = s.data.toList := ByteArray.toList_eq s
theorem ext_bs (s : ByteArray) (a b : Nat) : s.extract a b = bs ((s.data.toList.take b).drop a) := by
  apply ByteArray.ext
  rw [ByteArray.data_extract]
  apply Array.toList_inj.mp
  rw [Array.toList_extract, List.extract_eq_take_drop, List.drop_take]
  rfl
end
section
theorem unesc_esc (l : List UInt8) : unescL (escL l) = some l := by
  induction l with
  | nil => rfl
  | cons c l ih =>
    simp only [escL, List.flatMap_cons] at ih ⊢
    by_cases h : c = 34 ∨ c = 92
    · rw [escB, if_pos h]
      show unescL (92 :: c :: List.flatMap escB l) = _
      rw [unescL_b, ih]; rfl
    · rw [escB, if_neg h]
      show unescL (c :: List.flatMap escB l) = _
      rw [unescL_o c _ (fun e => h (.inl e)) (fun e => h (.inr e)), ih]; rfl
theorem text_esc (l : List UInt8) : textL (escL l) = textL l := by
  induction l with
  | nil => rfl
  | cons c l ih =>
    have h1 : textL (escL (c :: l)) = (textL (escB c) && textL (escL l)) := by simp [textL, allI, escL]
    have h2 : textL (c :: l) = (textI c.toNat && textL l) := by simp [textL, allI]
    have h3 : textL (escB c) = textI c.toNat := by
      unfold escB; split
      · have : textI ((92 : UInt8).toNat : Int) = true := by decide
        simp only [textL, allI, List.all_cons, List.all_nil, this, Bool.true_and, Bool.and_true]
      · simp [textL, allI]
    rw [h1, h2, h3, ih]
theorem unq_quote (l : List UInt8) : unqL (quoteL l) = unqIn (escL l) := by
  have hl : (quoteL l).length = (escL l).length + 2 := by simp [quoteL]
  have h0 : (quoteL l).getD 0 0 = 34 := by simp [quoteL]
  have h1 : (quoteL l).getD ((quoteL l).length - 1) 0 = 34 := by
    rw [hl]; simp [quoteL, List.getD_eq_getElem?_getD]
  have h2 : ((quoteL l).take ((quoteL l).length - 1)).drop 1 = escL l := by
    rw [hl]; simp [quoteL]
  unfold unqL
  rw [if_neg (by rw [hl, h0]; rintro (h | h | h); omega; exact h rfl; rw [← hl] at h; exact h h1), h2]
theorem unq_quote_text {l : List UInt8} (h : textL l = true) : unqL (quoteL l) = some l := by
  rw [unq_quote, unqIn_text (by rw [text_esc]; exact h), unesc_esc]
def valF (v : Int) (l : List UInt8) : Int := l.foldl (fun v c => v * 10 + ((c.toNat : Int) - 48)) v
theorem sat_min (v d : Int) (h0 : 0 ≤ v) (h1 : 0 ≤ d) : satI (min v 2147483647) d = min (v * 10 + d) 2147483647 := by
  unfold satI; split <;> omega
theorem numF_val (l : List UInt8) (h : allI digitI l = true) : ∀ v : Int, 0 ≤ v → l.foldl (fun v c => satI v ((c.toNat : Int) - 48)) (min v 2147483647) = min (valF v l) 2147483647 := by
  induction l with
  | nil => intro v _; rfl
  | cons c l ih =>
    intro v hv
    have hc : digitI c.toNat = true ∧ allI digitI l = true := by simpa [allI] using h
    have hd := digitI_bd hc.1
    simp only [List.foldl_cons, valF]
    rw [sat_min v _ hv (by omega)]
    exact ih hc.2 _ (by omega)
theorem numF_eq (l : List UInt8) (h : allI digitI l = true) : numF l = min (valF 0 l) 2147483647 := numF_val l h 0 (Int.le_refl _)
theorem dig_digit (m : Nat) : digitI (digB m).toNat = true := by
  rw [dig_toNat]; simp [digitI]; omega
theorem decF_digits : ∀ f m acc, allI digitI acc = true → allI digitI (decF f m acc) = true
  | 0, m, acc, h => h
  | f + 1, m, acc, h => by
    have h' : allI digitI (digB m :: acc) = true := by simp only [allI, List.all_cons, dig_digit, Bool.true_and]; exact h
    unfold decF; split
    · exact h'
    · exact decF_digits f _ _ h'
theorem decF_val : ∀ f m acc, m < 10 ^ (f + 1) → valF 0 (decF (f + 1) m acc) = valF (m : Int) acc
  | 0, m, acc, h => by
    unfold decF
    rw [if_pos (by omega)]
    simp only [valF, List.foldl_cons, dig_toNat]
    congr 1; omega
  | f + 1, m, acc, h => by
    unfold decF; split
    · simp only [valF, List.foldl_cons, dig_toNat]
      congr 1; omega
    · rw [decF_val f (m / 10) _ (by rw [Nat.pow_succ] at h; omega)]
      simp only [valF, List.foldl_cons, dig_toNat]
      congr 1; omega
theorem decF_ne : ∀ f m acc, decF (f + 1) m acc ≠ []
  | 0, m, acc => by unfold decF; split <;> simp [decF]
  | f + 1, m, acc => by
    unfold decF; split
    · simp
    · exact decF_ne f _ _
theorem num_dec {n : Int} (h0 : 0 ≤ n) (h1 : n ≤ 9223372036854775807) : numL (decL n) = some (min n 2147483647) := by
  have hd : allI digitI (decL n) = true := by rw [decL, if_neg (by omega)]; exact decF_digits _ _ _ rfl
  have hv : valF 0 (decL n) = n := by
    rw [decL, if_neg (by omega), decF_val 19 n.natAbs [] (by omega)]; simp [valF]; omega
  have hne : decL n ≠ [] := by rw [decL, if_neg (by omega)]; exact decF_ne 19 _ _
  unfold numL; rw [if_pos ⟨hd, hne⟩, numF_eq _ hd, hv]
theorem trim_split (l : List UInt8) : ∃ a b, l = a ++ (trimL l ++ b) ∧ (∀ c ∈ a, blankB c = true) ∧ (∀ c ∈ b, blankB c = true) ∧ (∀ c r, trimL l = c :: r → blankB c = false) ∧ (∀ c r, trimL l = r ++ [c] → blankB c = false) := by
  obtain ⟨k, e, ht⟩ := ex_trim l
  have hT := trim_at ht
  obtain ⟨h1, h2, h3, h4, h5, h6⟩ := ht
  have hlen : (trimL l).length = e - k := by rw [hT]; simp only [List.length_drop, List.length_take]; omega
  have hm : ∀ j, j < e - k → (trimL l).getD j 0 = l.getD (k + j) 0 := by
    intro j hj
    rw [hT]
    simp only [List.getD_eq_getElem?_getD, List.getElem?_drop]
    rw [List.getElem?_take_of_lt (by omega)]
  refine ⟨l.take k, l.drop e, ?_, ?_, ?_, ?_, ?_⟩
  · have e1 : (l.take e).take k = l.take k := by rw [List.take_take, Nat.min_eq_left h1]
    rw [hT, ← List.append_assoc]
    conv => lhs; rw [← List.take_append_drop e l, ← List.take_append_drop k (l.take e), e1]
  · intro c hc
    obtain ⟨j, hj, rfl⟩ := getD_mem hc
    rw [List.length_take] at hj
    have := h3 j (by omega)
    simpa [List.getD_eq_getElem?_getD, List.getElem?_take_of_lt (show j < k by omega)] using this
  · intro c hc
    obtain ⟨j, hj, rfl⟩ := getD_mem hc
    rw [List.length_drop] at hj
    have := h4 (e + j) (by omega) (by omega)
    simpa [List.getD_eq_getElem?_getD, List.getElem?_drop] using this
  · intro c r hcr
    have hpos : 0 < e - k := by rw [← hlen, hcr]; simp
    have := hm 0 hpos
    rw [hcr] at this
    have e2 : c = l.getD k 0 := by simpa using this
    rw [e2]; exact h5 (by omega)
  · intro c r hcr
    have hr : e - k = r.length + 1 := by rw [← hlen, hcr]; simp
    have := hm r.length (by omega)
    rw [hcr] at this
    have e2 : c = l.getD (k + r.length) 0 := by simpa [List.getD_eq_getElem?_getD] using this
    rw [e2, show k + r.length = e - 1 by omega]; exact h6 (by omega)
theorem fold_trans {a b c : List UInt8} (h1 : foldL a b = true) (h2 : foldL b c = true) : foldL a c = true := by
  unfold foldL at *; exact decide_eq_true ((of_decide_eq_true h1).trans (of_decide_eq_true h2))
end
section
theorem trim_le (l : List UInt8) : (trimL l).length ≤ l.length := by
  obtain ⟨a, b, h, _⟩ := trim_split l
  have := congrArg List.length h
  simp at this; omega
end
section
/-- the pieces of a list at a separator outside quoted strings; the piece that has been begun -/
def cutF (sep : UInt8) : Nat → Bool → List UInt8 → List UInt8 → List (List UInt8)
  | 0, _, _, acc => [acc]
  | _ + 1, _, [], acc => [acc]
  | f + 1, q, c :: r, acc =>
    if q = true ∧ c = 92 then (match r with | [] => [acc ++ [c]] | d :: r2 => cutF sep f q r2 (acc ++ [c, d]))
    else if c = 34 then cutF sep f (!q) r (acc ++ [c])
    else if c = sep ∧ q = false then acc :: cutF sep f q r []
    else cutF sep f q r (acc ++ [c])
def cutL (sep : UInt8) (l : List UInt8) : List (List UInt8) := cutF sep l.length false l []
/-- is a byte behind the list within a quoted string? -/
def endF : Nat → Bool → List UInt8 → Bool
  | 0, q, _ => q
  | _ + 1, q, [] => q
  | f + 1, q, c :: r =>
    if q = true ∧ c = 92 then (match r with | [] => true | _ :: r2 => endF f q r2)
    else if c = 34 then endF f (!q) r
    else endF f q r
def memL (ps : List (List UInt8)) : List (List UInt8) := (ps.map trimL).filter (fun p => !p.isEmpty)
def splitL (l : List UInt8) : List (List UInt8) := (memL (cutL 44 l)).take 64
theorem cutF_fuel {sep : UInt8} : ∀ (f g : Nat) (q : Bool) (l acc : List UInt8), l.length ≤ f → l.length ≤ g → cutF sep f q l acc = cutF sep g q l acc
  | f, g, q, [], acc, _, _ => by cases f <;> cases g <;> rfl
  | 0, g, q, c :: r, acc, h, _ => by simp at h
  | f + 1, 0, q, c :: r, acc, _, h => by simp at h
  | f + 1, g + 1, q, c :: r, acc, hf, hg => by
    simp only [List.length_cons] at hf hg
    unfold cutF
    split
    · split
      · rfl
      · rename_i d r2
        simp only [List.length_cons] at hf hg
        exact cutF_fuel f g q r2 _ (by omega) (by omega)
    · split
      · exact cutF_fuel f g (!q) r _ (by omega) (by omega)
      · split
        · rw [cutF_fuel f g q r _ (by omega) (by omega)]
        · exact cutF_fuel f g q r _ (by omega) (by omega)
theorem cutF_cons (sep : UInt8) (f : Nat) (q : Bool) (c : UInt8) (r acc : List UInt8) : cutF sep (f + 1) q (c :: r) acc = if q = true ∧ c = 92 then (match r with | [] => [acc ++ [c]] | d :: r2 => cutF sep f q r2 (acc ++ [c, d])) else if c = 34 then cutF sep f (!q) r (acc ++ [c]) else if c = sep ∧ q = false then acc :: cutF sep f q r [] else cutF sep f q r (acc ++ [c]) := rfl
theorem endF_cons (f : Nat) (q : Bool) (c : UInt8) (r : List UInt8) : endF (f + 1) q (c :: r) = if q = true ∧ c = 92 then (match r with | [] => true | _ :: r2 => endF f q r2) else if c = 34 then endF f (!q) r else endF f q r := rfl
theorem cutF_nil (sep : UInt8) (f : Nat) (q : Bool) (acc : List UInt8) : cutF sep f q [] acc = [acc] := by cases f <;> rfl
theorem endF_nil (f : Nat) (q : Bool) : endF f q [] = q := by cases f <;> rfl
/-- a list that ends outside quoted strings, a separator, more -/
theorem cutF_app {sep : UInt8} (hs : sep ≠ 34 ∧ sep ≠ 92) : ∀ (f : Nat) (q : Bool) (a b acc : List UInt8), a.length ≤ f → endF f q a = false → cutF sep (f + 1 + b.length) q (a ++ sep :: b) acc = cutF sep f q a acc ++ cutF sep b.length false b []
  | f, q, [], b, acc, h, he => by
    rw [endF_nil] at he
    subst he
    rw [List.nil_append, show f + 1 + b.length = (f + b.length) + 1 from by omega, cutF_cons, if_neg (by simp), if_neg hs.1, if_pos ⟨rfl, rfl⟩, cutF_fuel (f + b.length) b.length false b [] (by omega) (Nat.le_refl _), cutF_nil]
    rfl
  | 0, q, c :: r, b, acc, h, he => by simp at h
  | f + 1, q, c :: r, b, acc, h, he => by
    simp only [List.length_cons] at h
    rw [endF_cons] at he
    rw [List.cons_append, show f + 1 + 1 + b.length = (f + 1 + b.length) + 1 from by omega, cutF_cons, cutF_cons]
    by_cases h1 : q = true ∧ c = 92
    · rw [if_pos h1] at he
      rw [if_pos h1, if_pos h1]
      match r, h, he with
      | [], h, he => cases he
      | d :: r2, h, he =>
        simp only [List.length_cons] at h
        exact cutF_app hs f q r2 b _ (by omega) he
    · rw [if_neg h1] at he
      rw [if_neg h1, if_neg h1]
      by_cases h2 : c = 34
      · rw [if_pos h2] at he
        rw [if_pos h2, if_pos h2]
        exact cutF_app hs f (!q) r b _ (by omega) he
      · rw [if_neg h2] at he
        rw [if_neg h2, if_neg h2]
        by_cases h3 : c = sep ∧ q = false
        · rw [if_pos h3, if_pos h3, cutF_app hs f q r b [] (by omega) he]; rfl
        · rw [if_neg h3, if_neg h3]
          exact cutF_app hs f q r b _ (by omega) he
theorem memL_append (a b : List (List UInt8)) : memL (a ++ b) = memL a ++ memL b := by unfold memL; rw [List.map_append, List.filter_append]
theorem memL_one {p : List UInt8} (h : trimL p ≠ []) : memL [p] = [trimL p] := by
  unfold memL
  cases hq : trimL p with
  | nil => exact absurd hq h
  | cons c r => simp [hq]
end
section
/-- no separator outside quoted strings -/
def ncF (sep : UInt8) : Nat → Bool → List UInt8 → Bool
  | 0, _, _ => true
  | _ + 1, _, [] => true
  | f + 1, q, c :: r =>
    if q = true ∧ c = 92 then (match r with | [] => true | _ :: r2 => ncF sep f q r2)
    else if c = 34 then ncF sep f (!q) r
    else if c = sep ∧ q = false then false
    else ncF sep f q r
def ncL (sep : UInt8) (q : Bool) (l : List UInt8) : Bool := ncF sep l.length q l
theorem ncF_cons (sep : UInt8) (f : Nat) (q : Bool) (c : UInt8) (r : List UInt8) : ncF sep (f + 1) q (c :: r) = if q = true ∧ c = 92 then (match r with | [] => true | _ :: r2 => ncF sep f q r2) else if c = 34 then ncF sep f (!q) r else if c = sep ∧ q = false then false else ncF sep f q r := rfl
theorem ncF_fuel {sep : UInt8} : ∀ (f g : Nat) (q : Bool) (l : List UInt8), l.length ≤ f → l.length ≤ g → ncF sep f q l = ncF sep g q l
  | f, g, q, [], _, _ => by cases f <;> cases g <;> rfl
  | 0, g, q, c :: r, h, _ => by simp at h
  | f + 1, 0, q, c :: r, _, h => by simp at h
  | f + 1, g + 1, q, c :: r, hf, hg => by
    simp only [List.length_cons] at hf hg
    rw [ncF_cons, ncF_cons]
    split
    · match r, hf, hg with
      | [], _, _ => rfl
      | d :: r2, hf, hg =>
        simp only [List.length_cons] at hf hg
        exact ncF_fuel f g q r2 (by omega) (by omega)
    · split
      · exact ncF_fuel f g (!q) r (by omega) (by omega)
      · split
        · rfl
        · exact ncF_fuel f g q r (by omega) (by omega)
theorem nc_esc {sep : UInt8} {q : Bool} {c d : UInt8} {r : List UInt8} (h : q = true ∧ c = 92) : ncL sep q (c :: d :: r) = ncL sep q r := by
  unfold ncL
  show ncF sep (r.length + 1 + 1) q (c :: d :: r) = _
  rw [ncF_cons, if_pos h]
  exact ncF_fuel _ _ q r (by omega) (by omega)
theorem nc_quo {sep : UInt8} {q : Bool} {c : UInt8} {r : List UInt8} (h1 : ¬ (q = true ∧ c = 92)) (h : c = 34) : ncL sep q (c :: r) = ncL sep (!q) r := by
  unfold ncL
  show ncF sep (r.length + 1) q (c :: r) = _
  rw [ncF_cons, if_neg h1, if_pos h]
theorem nc_sep {sep : UInt8} {q : Bool} {c : UInt8} {r : List UInt8} (h1 : ¬ (q = true ∧ c = 92)) (h2 : c ≠ 34) (h : c = sep ∧ q = false) : ncL sep q (c :: r) = false := by
  unfold ncL
  show ncF sep (r.length + 1) q (c :: r) = _
  rw [ncF_cons, if_neg h1, if_neg h2, if_pos h]
theorem nc_any {sep : UInt8} {q : Bool} {c : UInt8} {r : List UInt8} (h1 : ¬ (q = true ∧ c = 92)) (h2 : c ≠ 34) (h : ¬ (c = sep ∧ q = false)) : ncL sep q (c :: r) = ncL sep q r := by
  unfold ncL
  show ncF sep (r.length + 1) q (c :: r) = _
  rw [ncF_cons, if_neg h1, if_neg h2, if_neg h]
theorem nc_cut {sep : UInt8} : ∀ (f : Nat) (q : Bool) (l acc : List UInt8), l.length ≤ f → ncL sep q l = true → cutF sep f q l acc = [acc ++ l]
  | f, q, [], acc, _, _ => by rw [cutF_nil, List.append_nil]
  | 0, q, c :: r, acc, h, _ => by simp at h
  | f + 1, q, c :: r, acc, h, hn => by
    simp only [List.length_cons] at h
    rw [cutF_cons]
    by_cases h1 : q = true ∧ c = 92
    · rw [if_pos h1]
      match r, h, hn with
      | [], _, _ => rfl
      | d :: r2, h, hn =>
        simp only [List.length_cons] at h
        rw [nc_esc h1] at hn
        show cutF sep f q r2 (acc ++ [c, d]) = _
        rw [nc_cut f q r2 _ (by omega) hn]; simp
    · rw [if_neg h1]
      by_cases h2 : c = 34
      · rw [nc_quo h1 h2] at hn
        rw [if_pos h2, nc_cut f (!q) r _ (by omega) hn]; simp
      · rw [if_neg h2]
        by_cases h3 : c = sep ∧ q = false
        · rw [nc_sep h1 h2 h3] at hn; cases hn
        · rw [nc_any h1 h2 h3] at hn
          rw [if_neg h3, nc_cut f q r _ (by omega) hn]; simp
end
end Go.Proofs.Ytlcojfkkeommoaa.Asc
