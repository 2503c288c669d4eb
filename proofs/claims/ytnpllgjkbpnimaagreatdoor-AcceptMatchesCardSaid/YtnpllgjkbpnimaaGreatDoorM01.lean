/- Merged texts: AscSpec AscSpec2 StaSpec AscSpec3 FieSpec LisSpec LisSpec2 LstSpec LisSpec3 LisSpec4 ParSpec ParSpec2 ParSpec3 MedSpec MedSpec2 LanSpec CodSpec QvaSpec. -/
import Derived.Laws.Strings
import Derived.Lib.IndexLaws
set_option linter.unusedVariables false
set_option linter.unusedSimpArgs false
set_option maxRecDepth 100000
namespace Go.Proofs.YtnpllgjkbpnimaaGreatDoor.Asc
section
def letterI (b : Int) : Bool := decide (97 ≤ b ∧ b ≤ 122) || decide (65 ≤ b ∧ b ≤ 90)
def digitI (b : Int) : Bool := decide (48 ≤ b ∧ b ≤ 57)
def signI (b : Int) : Bool := b == 33 || b == 35 || b == 36 || b == 37 || b == 38 || b == 39 || b == 42 || b == 43 || b == 45 || b == 46 || b == 94 || b == 95 || b == 96 || b == 124 || b == 126
def signL : List Int := [33, 35, 36, 37, 38, 39, 42, 43, 45, 46, 94, 95, 96, 124, 126]
def tokI (b : Int) : Bool := signI b || letterI b || digitI b
theorem sign_at : ∀ k : Fin 15, ((⟨#[33, 35, 36, 37, 38, 39, 42, 43, 45, 46, 94, 95, 96, 124, 126]⟩ : ByteArray).data[k.1]).toNat = signL.getD k.1 0 := by decide
theorem sign_yes {b : Int} {k : Nat} (hk : k < 15) (h : ((((⟨#[33, 35, 36, 37, 38, 39, 42, 43, 45, 46, 94, 95, 96, 124, 126]⟩ : ByteArray)[k]'hk).toNat : Int) == b) = true) : tokI b = true := by
  have e : ((((⟨#[33, 35, 36, 37, 38, 39, 42, 43, 45, 46, 94, 95, 96, 124, 126]⟩ : ByteArray)[k]'hk).toNat : Int)) = signL.getD k 0 := sign_at ⟨k, hk⟩
  rw [e] at h
  have h' : signL.getD k 0 = b := by simpa using h
  have hs : ∀ k : Fin 15, signI (signL.getD k.1 0) = true := by decide
  have := hs ⟨k, hk⟩
  simp only [h'] at this
  simp [tokI, this]
theorem sign_more {b : Int} {k : Nat} (hno : ∀ j < k, signL.getD j 0 ≠ b) (hk : k < 15) (h : ((((⟨#[33, 35, 36, 37, 38, 39, 42, 43, 45, 46, 94, 95, 96, 124, 126]⟩ : ByteArray)[k]'hk).toNat : Int) == b) = false) : ∀ j < k + 1, signL.getD j 0 ≠ b := by
  have e : ((((⟨#[33, 35, 36, 37, 38, 39, 42, 43, 45, 46, 94, 95, 96, 124, 126]⟩ : ByteArray)[k]'hk).toNat : Int)) = signL.getD k 0 := sign_at ⟨k, hk⟩
  rw [e] at h
  have h' : ¬ signL.getD k 0 = b := by simpa using h
  intro j hj
  rcases Nat.lt_succ_iff_lt_or_eq.mp hj with h1 | rfl
  · exact hno j h1
  · exact h'
theorem sign_no {b : Int} {k : Nat} (hno : ∀ j < k, signL.getD j 0 ≠ b) (hk : 15 ≤ k) (hl : (letterI b || digitI b) = false) : tokI b = false := by
  have h : signI b = false := by
    have a := fun j (hj : j < 15) => hno j (by omega)
    have a0 := a 0 (by omega); have a1 := a 1 (by omega); have a2 := a 2 (by omega); have a3 := a 3 (by omega); have a4 := a 4 (by omega)
    have a5 := a 5 (by omega); have a6 := a 6 (by omega); have a7 := a 7 (by omega); have a8 := a 8 (by omega); have a9 := a 9 (by omega)
    have a10 := a 10 (by omega); have a11 := a 11 (by omega); have a12 := a 12 (by omega); have a13 := a 13 (by omega); have a14 := a 14 (by omega)
    simp [signL] at a0 a1 a2 a3 a4 a5 a6 a7 a8 a9 a10 a11 a12 a13 a14
    simp [signI]
    omega
  simp only [tokI, h, Bool.false_or]; exact hl
def textI (b : Int) : Bool := b == 9 || decide (32 ≤ b ∧ b ≤ 126) || decide (128 ≤ b)
def blankI (b : Int) : Bool := b == 32 || b == 9
def lowI (b : Int) : Int := if 65 ≤ b ∧ b ≤ 90 then b + 32 else b
/-- every byte of the list has the property -/
def allI (p : Int → Bool) (l : List UInt8) : Bool := l.all fun c => p c.toNat
def tokL (l : List UInt8) : Bool := !l.isEmpty && allI tokI l
def textL (l : List UInt8) : Bool := allI textI l
def lowL (l : List UInt8) : List UInt8 := l.map fun c => UInt8.ofNat (lowI c.toNat).toNat
theorem allI_snoc (p : Int → Bool) (l : List UInt8) (c : UInt8) : allI p (l ++ [c]) = (allI p l && p c.toNat) := by simp [allI]
theorem take_snoc (s : ByteArray) (k : Nat) (h : k < s.size) : s.data.toList.take (k + 1) = s.data.toList.take k ++ [s[k]] := by
  rw [List.take_succ_eq_append_getElem (by simpa using h)]; rfl
theorem all_more {p : Int → Bool} {s : ByteArray} {k : Nat} (h : allI p (s.data.toList.take k) = true) (hk : k < s.size) (hp : p (s[k].toNat) = true) : allI p (s.data.toList.take (k + 1)) = true := by
  rw [take_snoc s k hk, allI_snoc, h, hp]; rfl
theorem all_not {p : Int → Bool} {s : ByteArray} {k : Nat} (hk : k < s.size) (hp : p (s[k].toNat) = false) : allI p s.data.toList = false := by
  rw [← Bool.not_eq_true]; intro h
  have := List.all_eq_true.mp h s[k] (by exact List.getElem_mem (l := s.data.toList) (by simpa using hk))
  rw [hp] at this; cases this
theorem all_end {p : Int → Bool} {s : ByteArray} {k : Nat} (h : allI p (s.data.toList.take k) = true) (hk : s.size ≤ k) : allI p s.data.toList = true := by
  rwa [List.take_of_length_le (by simpa using hk)] at h
/-- the inside of a quoted string, its backslashes resolved -/
def unescL : List UInt8 → Option (List UInt8)
  | [] => some []
  | [c] => if c = 34 ∨ c = 92 then none else some [c]
  | c :: d :: r => if c = 34 then none else if c = 92 then (unescL r).map (d :: ·) else (unescL (d :: r)).map (c :: ·)
theorem unescL_q (r : List UInt8) : unescL (34 :: r) = none := by cases r <;> simp [unescL]
theorem unescL_e : unescL [92] = none := by simp [unescL]
theorem unescL_b (d : UInt8) (r : List UInt8) : unescL (92 :: d :: r) = (unescL r).map (d :: ·) := by simp [unescL]
theorem unescL_o (c : UInt8) (r : List UInt8) (h1 : c ≠ 34) (h2 : c ≠ 92) : unescL (c :: r) = (unescL r).map (c :: ·) := by
  cases r <;> simp [unescL, h1, h2]
theorem drop_cons (s : ByteArray) (k : Nat) (h : k < s.size) : s.data.toList.drop k = s[k] :: s.data.toList.drop (k + 1) := by
  rw [List.drop_eq_getElem_cons (by simpa using h)]; rfl
/-- what has been read so far is acc, what is left is the list from k on -/
def UnAt (l : List UInt8) (k : Nat) (acc : List UInt8) : Prop := acc.length ≤ k ∧ unescL l = (unescL (l.drop k)).map (acc ++ ·)
theorem UnAt.start (l : List UInt8) : UnAt l 0 [] := ⟨by simp, by simp⟩
theorem UnAt.fin {l : List UInt8} {k : Nat} {acc : List UInt8} (h : UnAt l k acc) (hk : l.length ≤ k) : unescL l = some acc := by
  rw [h.2, List.drop_of_length_le hk]; simp [unescL]
theorem byte_eq {c : UInt8} {n : Nat} (h : ((c.toNat : Int) == (n : Int)) = true) (hn : n < 256) : c = UInt8.ofNat n := by
  have : c.toNat = n := by have := eq_of_beq h; omega
  rw [← this]; simp
theorem byte_ne {c : UInt8} {n : Nat} (h : ((c.toNat : Int) == (n : Int)) = false) (hn : n < 256) : c ≠ UInt8.ofNat n := by
  intro e; subst e
  rw [UInt8.toNat_ofNat'] at h
  simp [Nat.mod_eq_of_lt hn] at h
theorem UnAt.quote {s : ByteArray} {k : Nat} {acc : List UInt8} (h : UnAt s.data.toList k acc) (hk : k < s.size) (hc : ((s[k].toNat : Int) == 34) = true) : unescL s.data.toList = none := by
  rw [h.2, drop_cons s k hk, byte_eq (n := 34) hc (by omega)]; show Option.map _ (unescL (34 :: _)) = none; rw [unescL_q]; rfl
theorem UnAt.last {s : ByteArray} {k : Nat} {acc : List UInt8} (h : UnAt s.data.toList k acc) (hk : k < s.size) (hc : ((s[k].toNat : Int) == 92) = true) (he : s.size ≤ k + 1) : unescL s.data.toList = none := by
  rw [h.2, drop_cons s k hk, byte_eq (n := 92) hc (by omega), List.drop_of_length_le (by simpa using he)]; show Option.map _ (unescL [92]) = none; rw [unescL_e]; rfl
theorem UnAt.esc {s : ByteArray} {k : Nat} {acc : List UInt8} (h : UnAt s.data.toList k acc) (hk : k < s.size) (hc : ((s[k].toNat : Int) == 92) = true) (he : k + 1 < s.size) : UnAt s.data.toList (k + 1 + 1) (acc ++ [s[k + 1]]) := by
  refine ⟨by have := h.1; simp; omega, ?_⟩
  rw [h.2, drop_cons s k hk, drop_cons s (k + 1) he, byte_eq (n := 92) hc (by omega)]; show Option.map _ (unescL (92 :: _ :: _)) = _
  rw [unescL_b, Option.map_map]; congr 1; funext x; simp
theorem UnAt.plain {s : ByteArray} {k : Nat} {acc : List UInt8} (h : UnAt s.data.toList k acc) (hk : k < s.size) (h1 : ((s[k].toNat : Int) == 34) = false) (h2 : ((s[k].toNat : Int) == 92) = false) : UnAt s.data.toList (k + 1) (acc ++ [s[k]]) := by
  refine ⟨by have := h.1; simp; omega, ?_⟩
  rw [h.2, drop_cons s k hk, unescL_o _ _ (byte_ne (n := 34) h1 (by omega)) (byte_ne (n := 92) h2 (by omega)), Option.map_map]; congr 1; funext x; simp
/-- a byte inside a quoted string -/
def escB (c : UInt8) : List UInt8 := if c = 34 ∨ c = 92 then [92, c] else [c]
def escL (l : List UInt8) : List UInt8 := l.flatMap escB
def quoteL (l : List UInt8) : List UInt8 := 34 :: (escL l ++ [34])
theorem escL_le (l : List UInt8) : (escL l).length ≤ 2 * l.length := by
  induction l with
  | nil => simp [escL]
  | cons c l ih =>
    have : (escB c).length ≤ 2 := by unfold escB; split <;> simp
    simp only [escL, List.flatMap_cons, List.length_append, List.length_cons] at *
    omega
theorem escL_le' (s : ByteArray) (k : Nat) : (escL (s.data.toList.take k)).length ≤ 2 * s.size := by
  have := escL_le (s.data.toList.take k)
  have h2 : (s.data.toList.take k).length ≤ s.data.toList.length := by rw [List.length_take]; omega
  have h3 : s.data.toList.length = s.size := by simp
  omega
theorem escL_snoc (l : List UInt8) (c : UInt8) : escL (l ++ [c]) = escL l ++ escB c := by simp [escL]
theorem esc_plain {s : ByteArray} {k : Nat} (hk : k < s.size) (h1 : ((s[k].toNat : Int) == 34) = false) (h2 : ((s[k].toNat : Int) == 92) = false) : escL (s.data.toList.take (k + 1)) = escL (s.data.toList.take k) ++ [s[k]] := by
  rw [take_snoc s k hk, escL_snoc]; congr 1
  unfold escB; rw [if_neg]; rintro (h | h)
  · exact byte_ne (n := 34) h1 (by omega) h
  · exact byte_ne (n := 92) h2 (by omega) h
theorem esc_q {s : ByteArray} {k : Nat} (hk : k < s.size) (h1 : ((s[k].toNat : Int) == 34) = true) : escL (s.data.toList.take (k + 1)) = escL (s.data.toList.take k) ++ [92] ++ [s[k]] := by
  rw [take_snoc s k hk, escL_snoc, List.append_assoc]; congr 1
  unfold escB; rw [if_pos (.inl (byte_eq (n := 34) h1 (by omega)))]; rfl
theorem esc_b {s : ByteArray} {k : Nat} (hk : k < s.size) (h1 : ((s[k].toNat : Int) == 92) = true) : escL (s.data.toList.take (k + 1)) = escL (s.data.toList.take k) ++ [92] ++ [s[k]] := by
  rw [take_snoc s k hk, escL_snoc, List.append_assoc]; congr 1
  unfold escB; rw [if_pos (.inr (byte_eq (n := 92) h1 (by omega)))]; rfl
/-- the string of which a list of bytes is a quoted form -/
def unqIn (l : List UInt8) : Option (List UInt8) := if textL l = true then unescL l else none
def unqL (l : List UInt8) : Option (List UInt8) :=
  if l.length < 2 ∨ l.getD 0 0 ≠ 34 ∨ l.getD (l.length - 1) 0 ≠ 34 then none else unqIn ((l.take (l.length - 1)).drop 1)
theorem getD_at (s : ByteArray) (k : Nat) (h : k < s.size) : s.data.toList.getD k 0 = s[k] := by
  rw [List.getD_eq_getElem?_getD, List.getElem?_eq_getElem (by simpa using h)]; rfl
theorem unq_short {s : ByteArray} (h : s.size < 2) : unqL s.data.toList = none := by
  unfold unqL; rw [if_pos (.inl (by simpa using h))]
theorem unq_head {s : ByteArray} (hp : 0 < s.size) (h : ¬ ((s[0]'hp).toNat : Int) = 34) : unqL s.data.toList = none := by
  have hn : s.data.toList.getD 0 0 ≠ 34 := by rw [getD_at s 0 hp]; intro e; rw [e] at h; exact h rfl
  unfold unqL; rw [if_pos (.inr (.inl hn))]
theorem unq_last {s : ByteArray} (hp : s.size - 1 < s.size) (h : (((s[s.size - 1]'hp).toNat : Int) != 34) = true) : unqL s.data.toList = none := by
  have hz : s.data.toList.length = s.size := by simp
  have hn : s.data.toList.getD (s.data.toList.length - 1) 0 ≠ 34 := by rw [hz, getD_at s _ hp]; intro e; rw [e] at h; cases h
  unfold unqL; rw [if_pos (.inr (.inr hn))]
theorem unq_in {s : ByteArray} (h2 : ¬ s.size < 2) (hp : 0 < s.size) (h0 : ((s[0]'hp).toNat : Int) = 34) (hq : s.size - 1 < s.size) (h1 : (((s[s.size - 1]'hq).toNat : Int) != 34) = false) :
    unqL s.data.toList = unqIn (s.extract 1 (s.size - 1)).data.toList := by
  have hz : s.data.toList.length = s.size := by simp
  have e0 : s[0] = 34 := by
    have : s[0].toNat = 34 := by omega
    exact UInt8.toNat_inj.mp (by simpa using this)
  have e1 : s[s.size - 1] = 34 := byte_eq (n := 34) (by simpa using h1) (by omega)
  unfold unqL
  rw [hz, if_neg]
  · congr 1
    rw [ByteArray.data_extract, Array.toList_extract, List.extract_eq_take_drop, List.drop_take]
  · rw [getD_at s 0 hp, getD_at s _ hq, e0, e1]; simp; omega
theorem unqIn_text {l : List UInt8} (h : textL l = true) : unqIn l = unescL l := by unfold unqIn; rw [if_pos h]
theorem unqIn_not {l : List UInt8} (h : textL l = false) : unqIn l = none := by unfold unqIn; rw [h]; rfl
theorem unqIn_none {l : List UInt8} (h : unescL l = none) : unqIn l = none := by unfold unqIn; split <;> simp [h]
/-- the last decimal digit of m, as a byte -/
def digB (m : Nat) : UInt8 := UInt8.ofNat (48 + m % 10)
/-- the decimal digits of m ahead of acc, at most f of them, at least one -/
def decF : Nat → Nat → List UInt8 → List UInt8
  | 0, _, acc => acc
  | f + 1, m, acc => if m / 10 = 0 then digB m :: acc else decF f (m / 10) (digB m :: acc)
def decL (n : Int) : List UInt8 := if n < 0 then 45 :: decF 20 n.natAbs [] else decF 20 n.natAbs []
/-- the digits acc have been written, m is left of N -/
def DecAt (N m : Nat) (acc : List UInt8) : Prop :=
  decF (20 - acc.length) m acc = decF 20 N [] ∧ m * 10 ^ acc.length ≤ 9223372036854775808 ∧ (acc.length = 0 ∨ 1 ≤ m)
theorem DecAt.start {N : Nat} (h : N ≤ 9223372036854775808) : DecAt N N [] := ⟨rfl, by simpa using h, .inl rfl⟩
theorem DecAt.len {N m : Nat} {acc : List UInt8} (h : DecAt N m acc) : acc.length ≤ 18 := by
  rcases h.2.2 with h0 | h1
  · omega
  · rcases Nat.lt_or_ge 18 acc.length with hl | hl
    · have a1 : 10 ^ 19 ≤ 10 ^ acc.length := Nat.pow_le_pow_right (by omega) hl
      have a2 : 10 ^ acc.length ≤ m * 10 ^ acc.length := Nat.le_mul_of_pos_left _ h1
      have a3 := h.2.1
      omega
    · exact hl
theorem DecAt.step {N m : Nat} {acc : List UInt8} (h : DecAt N m acc) (hm : ¬ m / 10 = 0) : DecAt N (m / 10) (digB m :: acc) := by
  have hl := h.len
  refine ⟨?_, ?_, .inr (by omega)⟩
  · rw [← h.1]
    obtain ⟨f, hf⟩ : ∃ f, 20 - acc.length = f + 1 := ⟨19 - acc.length, by omega⟩
    have hf' : 20 - (digB m :: acc).length = f := by simp; omega
    rw [hf', hf]; simp only [decF]; rw [if_neg hm]
  · have h1 : m / 10 * 10 ^ (acc.length + 1) = (m / 10 * 10) * 10 ^ acc.length := by rw [Nat.pow_succ]; rw [Nat.mul_assoc, Nat.mul_comm (10 ^ acc.length) 10, ← Nat.mul_assoc]
    have h2 : m / 10 * 10 ≤ m := by omega
    have h3 : (m / 10 * 10) * 10 ^ acc.length ≤ m * 10 ^ acc.length := Nat.mul_le_mul_right _ h2
    have h4 := h.2.1
    rw [List.length_cons, h1]; omega
theorem DecAt.fin {N m : Nat} {acc : List UInt8} (h : DecAt N m acc) (hm : m / 10 = 0) : decF 20 N [] = digB m :: acc := by
  have hl := h.len
  rw [← h.1]
  obtain ⟨f, hf⟩ : ∃ f, 20 - acc.length = f + 1 := ⟨19 - acc.length, by omega⟩
  rw [hf]; simp only [decF]; rw [if_pos hm]
theorem dig_toNat (m : Nat) : ((digB m).toNat : Int) = 48 + (m : Int) % 10 := by
  unfold digB; rw [UInt8.toNat_ofNat']; omega
/-- what stands in the buffer: p zeros, then acc -/
def zbuf (p : Nat) (acc : List UInt8) : List UInt8 := List.replicate p 0 ++ acc
theorem zbuf_set {p : Nat} {acc : List UInt8} (c : UInt8) (hp : 1 ≤ p) : (zbuf p acc).set (p - 1) c = zbuf (p - 1) (c :: acc) := by
  obtain ⟨q, rfl⟩ : ∃ q, p = q + 1 := ⟨p - 1, by omega⟩
  unfold zbuf
  rw [Nat.add_sub_cancel, List.replicate_succ', List.append_assoc, List.set_append_right _ _ (by simp), List.length_replicate, Nat.sub_self]
  rfl
end
section
def foldL (a b : List UInt8) : Bool := decide (lowL a = lowL b)
def lowB (c : UInt8) : UInt8 := UInt8.ofNat (lowI c.toNat).toNat
theorem lowL_map (l : List UInt8) : lowL l = l.map lowB := rfl
theorem lowB_inj {c d : UInt8} (h : lowI c.toNat = lowI d.toNat) : lowB c = lowB d := by unfold lowB; rw [h]
theorem lowI_of {c d : UInt8} (h : lowB c = lowB d) : lowI c.toNat = lowI d.toNat := by
  have hb : ∀ x : UInt8, ((lowB x).toNat : Int) = lowI x.toNat := fun x => by
    have := x.toNat_lt
    unfold lowB; rw [UInt8.toNat_ofNat']
    unfold lowI; split <;> omega
  rw [← hb, ← hb, h]
theorem fold_len {a b : ByteArray} (h : ¬ a.size = b.size) : foldL a.data.toList b.data.toList = false := by
  unfold foldL; rw [decide_eq_false]; intro e
  have := congrArg List.length e
  simp [lowL] at this; exact h this
theorem fold_more {a b : ByteArray} {k : Nat} (h : lowL (a.data.toList.take k) = lowL (b.data.toList.take k)) (ha : k < a.size) (hb : k < b.size) (hc : lowI a[k].toNat = lowI b[k].toNat) : lowL (a.data.toList.take (k + 1)) = lowL (b.data.toList.take (k + 1)) := by
  rw [take_snoc a k ha, take_snoc b k hb]
  simp only [lowL_map] at h ⊢
  rw [List.map_append, List.map_append, h, List.map_cons, List.map_cons, lowB_inj hc]
theorem fold_not {a b : ByteArray} {k : Nat} (ha : k < a.size) (hb : k < b.size) (hc : ¬ lowI a[k].toNat = lowI b[k].toNat) : foldL a.data.toList b.data.toList = false := by
  unfold foldL; rw [decide_eq_false]; intro e
  have h1 := congrArg (fun l : List UInt8 => l[k]?) e
  rw [lowL_map, lowL_map] at h1
  simp only [List.getElem?_map] at h1
  rw [List.getElem?_eq_getElem (by simpa using ha), List.getElem?_eq_getElem (by simpa using hb)] at h1
  simp only [Option.map_some, Option.some.injEq] at h1
  exact hc (lowI_of h1)
theorem fold_end {a b : ByteArray} {k : Nat} (h : lowL (a.data.toList.take k) = lowL (b.data.toList.take k)) (ha : a.size ≤ k) (hb : b.size ≤ k) : foldL a.data.toList b.data.toList = true := by
  rw [List.take_of_length_le (by simpa using ha), List.take_of_length_le (by simpa using hb)] at h
  unfold foldL; rw [decide_eq_true h]
def satI (v d : Int) : Int := if v * 10 + d > 2147483647 then 2147483647 else v * 10 + d
def numF (l : List UInt8) : Int := l.foldl (fun v c => satI v ((c.toNat : Int) - 48)) 0
def numL (l : List UInt8) : Option Int := if allI digitI l = true ∧ l ≠ [] then some (numF l) else none
theorem digitI_bd {b : Int} (h : digitI b = true) : 48 ≤ b ∧ b ≤ 57 := by simpa [digitI] using h
theorem satI_bd {v d : Int} (h0 : 0 ≤ v) (h1 : 0 ≤ d) : 0 ≤ satI v d ∧ satI v d ≤ 2147483647 := by unfold satI; split <;> omega
theorem numF_snoc (l : List UInt8) (c : UInt8) : numF (l ++ [c]) = satI (numF l) ((c.toNat : Int) - 48) := by simp [numF]
theorem numF_more {s : ByteArray} {k : Nat} (hk : k < s.size) : numF (s.data.toList.take (k + 1)) = satI (numF (s.data.toList.take k)) ((s[k].toNat : Int) - 48) := by
  rw [take_snoc s k hk, numF_snoc]
theorem num_not {s : ByteArray} {k : Nat} (hk : k < s.size) (hp : digitI (s[k].toNat) = false) : numL s.data.toList = none := by
  unfold numL; rw [if_neg]; rintro ⟨h, _⟩; rw [all_not hk hp] at h; cases h
def numV : Option Int → Int × Bool
  | none => (0, false)
  | some n => (n, true)
theorem num_end {s : ByteArray} {k : Nat} (h : allI digitI (s.data.toList.take k) = true) (hk : s.size ≤ k) : numV (numL s.data.toList) = (numF (s.data.toList.take k), !s.toList.isEmpty) := by
  have h1 := all_end h hk
  rw [List.take_of_length_le (by simpa using hk), show s.toList = s.data.toList from Go.ByteArray.toList_eq s]
  unfold numL
  rcases hl : s.data.toList with _ | ⟨c, r⟩
  · simp [numV, numF]
  · rw [hl] at h1
    rw [if_pos ⟨h1, by simp⟩]; rfl
def blankB (c : UInt8) : Bool := blankI c.toNat
def trimL (l : List UInt8) : List UInt8 := ((l.dropWhile blankB).reverse.dropWhile blankB).reverse
theorem dropW (a m : List UInt8) (ha : ∀ c ∈ a, blankB c = true) (hm : ∀ c r, m = c :: r → blankB c = false) : (a ++ m).dropWhile blankB = m := by
  induction a with
  | nil =>
    rcases m with _ | ⟨c, r⟩
    · rfl
    · simp [hm c r rfl]
  | cons c a ih =>
    simp only [List.cons_append, List.dropWhile_cons, ha c (by simp)]
    exact ih fun d hd => ha d (by simp [hd])
theorem trim_char (a m b : List UInt8) (ha : ∀ c ∈ a, blankB c = true) (hb : ∀ c ∈ b, blankB c = true) (h1 : ∀ c r, m = c :: r → blankB c = false) (h2 : ∀ c r, m = r ++ [c] → blankB c = false) : trimL (a ++ (m ++ b)) = m := by
  unfold trimL
  rcases hm : m with _ | ⟨c, r⟩
  · have : (a ++ ([] ++ b)).dropWhile blankB = [] := by
      have := dropW (a ++ b) [] (by intro c hc; rcases List.mem_append.mp hc with h | h; exact ha c h; exact hb c h) (by intro c r h; cases h)
      simpa using this
    rw [this]; rfl
  · rw [dropW a _ ha (by intro d q h; rw [List.cons_append] at h; injection h with e _; exact e ▸ h1 c r hm)]
    rw [List.reverse_append, dropW b.reverse _ (by intro d hd; exact hb d (List.mem_reverse.mp hd)) ?_, List.reverse_reverse]
    intro d q h
    have e2 : c :: r = q.reverse ++ [d] := by
      have := congrArg List.reverse h
      simpa using this
    exact h2 d q.reverse (hm.trans e2)
/-- the bounds of what is left: start and end -/
def TrimAt (l : List UInt8) (k e : Nat) : Prop :=
  k ≤ e ∧ e ≤ l.length ∧ (∀ j, j < k → blankB (l.getD j 0) = true) ∧ (∀ j, e ≤ j → j < l.length → blankB (l.getD j 0) = true) ∧ (k < l.length → blankB (l.getD k 0) = false) ∧ (k < e → blankB (l.getD (e - 1) 0) = false)
theorem ex_start (l : List UInt8) : ∀ m k, l.length = k + m → (∀ j, j < k → blankB (l.getD j 0) = true) → ∃ k', k' ≤ l.length ∧ (∀ j, j < k' → blankB (l.getD j 0) = true) ∧ (k' < l.length → blankB (l.getD k' 0) = false)
  | 0, k, h, hk => ⟨k, by omega, hk, by omega⟩
  | m + 1, k, h, hk => by
    rcases hb : blankB (l.getD k 0) with _ | _
    · exact ⟨k, by omega, hk, fun _ => hb⟩
    · exact ex_start l m (k + 1) (by omega) fun j hj => by
        rcases Nat.lt_succ_iff_lt_or_eq.mp hj with h1 | rfl
        · exact hk j h1
        · exact hb
theorem ex_end (l : List UInt8) (k : Nat) : ∀ m e, e = k + m → e ≤ l.length → (∀ j, e ≤ j → j < l.length → blankB (l.getD j 0) = true) → ∃ e', k ≤ e' ∧ e' ≤ l.length ∧ (∀ j, e' ≤ j → j < l.length → blankB (l.getD j 0) = true) ∧ (k < e' → blankB (l.getD (e' - 1) 0) = false)
  | 0, e, h, he, hk => ⟨e, by omega, he, hk, by omega⟩
  | m + 1, e, h, he, hk => by
    rcases hb : blankB (l.getD (e - 1) 0) with _ | _
    · exact ⟨e, by omega, he, hk, fun _ => hb⟩
    · exact ex_end l k m (e - 1) (by omega) (by omega) fun j hj hl => by
        by_cases e' : j = e - 1
        · subst e'; exact hb
        · exact hk j (by omega) hl
theorem ex_trim (l : List UInt8) : ∃ k e, TrimAt l k e := by
  obtain ⟨k, h1, h2, h3⟩ := ex_start l l.length 0 (by omega) (by intro j hj; omega)
  obtain ⟨e, h4, h5, h6, h7⟩ := ex_end l k (l.length - k) l.length (by omega) (Nat.le_refl _) (by intro j hj hl; omega)
  exact ⟨k, e, h4, h5, h2, h6, h3, h7⟩
theorem getD_mem {l : List UInt8} {c : UInt8} (h : c ∈ l) : ∃ j, j < l.length ∧ l.getD j 0 = c := by
  obtain ⟨j, hj, e⟩ := List.getElem_of_mem h
  exact ⟨j, hj, by simp [List.getD_eq_getElem?_getD, hj, e]⟩
theorem trim_at {l : List UInt8} {k e : Nat} (h : TrimAt l k e) : trimL l = (l.take e).drop k := by
  obtain ⟨h1, h2, h3, h4, h5, h6⟩ := h
  have hl : l = l.take k ++ ((l.take e).drop k ++ l.drop e) := by
    have e1 : (l.take e).take k = l.take k := by rw [List.take_take, Nat.min_eq_left h1]
    rw [← List.append_assoc]
    conv => lhs; rw [← List.take_append_drop e l, ← List.take_append_drop k (l.take e), e1]
  have hm : ∀ j, j < ((l.take e).drop k).length → ((l.take e).drop k).getD j 0 = l.getD (k + j) 0 := by
    intro j hj
    simp only [List.length_drop, List.length_take] at hj
    simp only [List.getD_eq_getElem?_getD, List.getElem?_drop]
    rw [List.getElem?_take_of_lt (by omega)]
  have hlen : ((l.take e).drop k).length = e - k := by simp only [List.length_drop, List.length_take]; omega
  conv => lhs; rw [hl]
  refine trim_char _ _ _ ?_ ?_ ?_ ?_
  · intro c hc
    obtain ⟨j, hj, rfl⟩ := getD_mem hc
    rw [List.length_take] at hj
    have := h3 j (by omega)
    simpa [List.getD_eq_getElem?_getD, List.getElem?_take_of_lt (show j < k by omega)] using this
  · intro c hc
    obtain ⟨j, hj, rfl⟩ := getD_mem hc
    rw [List.length_drop] at hj
    have := h4 (e + j) (by omega) (by omega)
    simpa [List.getD_eq_getElem?_getD, List.getElem?_drop] using this
  · intro c r hcr
    have := hm 0 (by rw [hcr]; simp)
    rw [hcr] at this
    have e2 : c = l.getD k 0 := by simpa using this
    rw [e2]; refine h5 ?_
    have : 0 < e - k := by rw [← hlen, hcr]; simp
    omega
  · intro c r hcr
    have hr : e - k = r.length + 1 := by rw [← hlen, hcr]; simp
    have := hm r.length (by rw [hcr]; simp)
    rw [hcr] at this
    have e2 : c = l.getD (k + r.length) 0 := by simpa [List.getD_eq_getElem?_getD] using this
    rw [e2, show k + r.length = e - 1 by omega]; exact h6 (by omega)
end
section
/-- a string out of a list of bytes, as a word that no rule opens -/
def bs (l : List UInt8) : ByteArray := ⟨l.toArray⟩
theorem bs_toList (l : List UInt8) : (bs l).data.toList = l := rfl
theorem bs_size (l : List UInt8) : (bs l).size = l.length := rfl
theorem bs_of (s : ByteArray) : s = bs s.data.toList := rfl
theorem bs_inj {a b : List UInt8} (h : bs a = bs b) : a = b := by
  have := congrArg (fun s : ByteArray => s.data.toList) h
  simpa [bs_toList] using this
theorem toList_bs (l : List UInt8) : (bs l).toList = l := by rw [ByteArray.toList_eq]; rfl
theorem toList_data (s : ByteArray) : s.toList = s.data.toList := ByteArray.toList_eq s
theorem ext_bs (s : ByteArray) (a b : Nat) : s.extract a b = bs ((s.data.toList.take b).drop a) := by
  apply ByteArray.ext
  rw [ByteArray.data_extract]
  apply Array.toList_inj.mp
  rw [Array.toList_extract, List.extract_eq_take_drop, List.drop_take]
  rfl
/-- the index of the first c from place k on, or -1 -/
def idxF (l : List UInt8) (c : UInt8) (k : Nat) : Int := if Lib.indexByte (l.drop k) c = -1 then -1 else k + Lib.indexByte (l.drop k) c
theorem idxF_hit {l : List UInt8} {c : UInt8} {k : Nat} (h : k < l.length) (hc : l[k] = c) : idxF l c k = k := by
  unfold idxF; rw [List.drop_eq_getElem_cons h, hc]; simp [Lib.indexByte]
theorem idxF_miss {l : List UInt8} {c : UInt8} {k : Nat} (h : k < l.length) (hc : l[k] ≠ c) : idxF l c k = idxF l c (k + 1) := by
  unfold idxF; rw [List.drop_eq_getElem_cons h]
  have hg := Lib.indexByte_ge (l.drop (k + 1)) c
  have : (l[k] == c) = false := by simpa using hc
  simp only [Lib.indexByte, this]
  by_cases e : Lib.indexByte (l.drop (k + 1)) c = -1
  · simp [e]
  · have e2 : (Lib.indexByte (l.drop (k + 1)) c == -1) = false := by simpa using e
    simp only [e2, if_neg e, Bool.false_eq_true, if_false]
    rw [if_neg (by omega)]; push_cast; omega
theorem idxF_end {l : List UInt8} {c : UInt8} {k : Nat} (h : l.length ≤ k) : idxF l c k = -1 := by
  unfold idxF; rw [List.drop_of_length_le h]; simp [Lib.indexByte]
theorem idxF_none {l : List UInt8} {c : UInt8} {k : Nat} (h : idxF l c k < 0) : Lib.indexByte (l.drop k) c = -1 := by
  unfold idxF at h
  have hg := Lib.indexByte_ge (l.drop k) c
  by_cases e : Lib.indexByte (l.drop k) c = -1
  · exact e
  · rw [if_neg e] at h; omega
theorem idxF_some {l : List UInt8} {c : UInt8} {k : Nat} (h : ¬ idxF l c k < 0) : ∃ o : Nat, Lib.indexByte (l.drop k) c = o ∧ idxF l c k = ((k + o : Nat) : Int) ∧ k + o < l.length := by
  unfold idxF at h ⊢
  have hg := Lib.indexByte_ge (l.drop k) c
  by_cases e : Lib.indexByte (l.drop k) c = -1
  · rw [if_pos e] at h; omega
  · obtain ⟨o, ho⟩ : ∃ o : Nat, Lib.indexByte (l.drop k) c = o := ⟨(Lib.indexByte (l.drop k) c).toNat, by omega⟩
    refine ⟨o, ho, by rw [if_neg e, ho]; push_cast; rfl, ?_⟩
    have := (Lib.indexByte_some ho).1
    have h2 := (List.getElem?_eq_some_iff.mp this).1
    rw [List.length_drop] at h2; omega
/-- before the first c, behind it, and whether there is one -/
def cut1 (c : UInt8) (l : List UInt8) : List UInt8 := l.takeWhile (· != c)
def cut2 (c : UInt8) (l : List UInt8) : List UInt8 := (l.dropWhile (· != c)).drop 1
def cutB (c : UInt8) (l : List UInt8) : Bool := l.contains c
theorem cut_no : ∀ {l : List UInt8} {c : UInt8}, Lib.indexByte l c = -1 → cut1 c l = l ∧ cut2 c l = [] ∧ cutB c l = false
  | [], c, _ => ⟨rfl, rfl, rfl⟩
  | b :: l, c, h => by
    unfold Lib.indexByte at h
    by_cases hb : b = c
    · subst hb; simp at h
    · have hb1 : (b == c) = false := by simpa using hb
      have hb2 : (b != c) = true := by simpa using hb
      have hb3 : (c == b) = false := by simpa using fun e => hb e.symm
      simp only [hb1, Bool.false_eq_true, if_false] at h
      have hg := Lib.indexByte_ge l c
      by_cases e : Lib.indexByte l c = -1
      · have ih := cut_no e
        refine ⟨by simp only [cut1, List.takeWhile_cons, hb2, if_true]; congr 1; exact ih.1, by simp only [cut2, List.dropWhile_cons, hb2, if_true]; exact ih.2.1, by simp only [cutB, List.contains_cons, hb3, Bool.false_or]; exact ih.2.2⟩
      · have e2 : (Lib.indexByte l c == -1) = false := by simpa using e
        simp only [e2, Bool.false_eq_true, if_false] at h; omega
theorem cut_at : ∀ {l : List UInt8} {c : UInt8} {k : Nat}, Lib.indexByte l c = (k : Int) → k < l.length ∧ cut1 c l = l.take k ∧ cut2 c l = l.drop (k + 1) ∧ cutB c l = true
  | [], c, k, h => by simp [Lib.indexByte] at h
  | b :: l, c, k, h => by
    unfold Lib.indexByte at h
    by_cases hb : b = c
    · subst hb; simp at h
      have : k = 0 := by omega
      subst this; simp [cut1, cut2, cutB]
    · have hb1 : (b == c) = false := by simpa using hb
      have hb2 : (b != c) = true := by simpa using hb
      have hb3 : (c == b) = false := by simpa using fun e => hb e.symm
      simp only [hb1, Bool.false_eq_true, if_false] at h
      have hg := Lib.indexByte_ge l c
      by_cases e : Lib.indexByte l c = -1
      · simp [e] at h
      · have e2 : (Lib.indexByte l c == -1) = false := by simpa using e
        simp only [e2, Bool.false_eq_true, if_false] at h
        obtain ⟨j, rfl⟩ : ∃ j, k = j + 1 := ⟨k - 1, by omega⟩
        have ih := cut_at (l := l) (c := c) (k := j) (by push_cast at h; omega)
        refine ⟨by simpa using ih.1, by simp only [cut1, List.takeWhile_cons, hb2, if_true, List.take_succ_cons]; congr 1; exact ih.2.1, by simp only [cut2, List.dropWhile_cons, hb2, if_true, List.drop_succ_cons]; exact ih.2.2.1, by simp only [cutB, List.contains_cons, hb3, Bool.false_or]; exact ih.2.2.2⟩
/-- the shape of what was cut -/
theorem cut_join {c : UInt8} {l : List UInt8} (h : cutB c l = true) : l = cut1 c l ++ c :: cut2 c l := by
  by_cases e : Lib.indexByte l c = -1
  · rw [(cut_no e).2.2] at h; cases h
  · obtain ⟨k, hk⟩ : ∃ k : Nat, Lib.indexByte l c = k := ⟨(Lib.indexByte l c).toNat, by have := Lib.indexByte_ge l c; omega⟩
    have hc := cut_at hk
    have hh := (Lib.indexByte_some hk).1
    rw [hc.2.1, hc.2.2.1]
    have hg : l[k] = c := (List.getElem?_eq_some_iff.mp hh).2
    rw [← hg, ← List.drop_eq_getElem_cons hc.1, List.take_append_drop]
theorem cut1_not (c : UInt8) (l : List UInt8) : c ∉ cut1 c l := by
  intro h
  have := List.all_takeWhile (l := l) (p := (· != c))
  have h2 := List.all_eq_true.mp this c h
  simp at h2
end
section
theorem trim_split (l : List UInt8) : ∃ a b, l = a ++ (trimL l ++ b) ∧ (∀ c ∈ a, blankB c = true) ∧ (∀ c ∈ b, blankB c = true) ∧ (∀ c r, trimL l = c :: r → blankB c = false) ∧ (∀ c r, trimL l = r ++ [c] → blankB c = false) := by
  obtain ⟨k, e, ht⟩ := ex_trim l
  have hT := trim_at ht
  obtain ⟨h1, h2, h3, h4, h5, h6⟩ := ht
  have hlen : (trimL l).length = e - k := by rw [hT]; simp only [List.length_drop, List.length_take]; omega
  have hm : ∀ j, j < e - k → (trimL l).getD j 0 = l.getD (k + j) 0 := by
    intro j hj
    rw [hT]
    simp only [List.getD_eq_getElem?_getD, List.getElem?_drop]
    rw [List.getElem?_take_of_lt (by omega)]
  refine ⟨l.take k, l.drop e, ?_, ?_, ?_, ?_, ?_⟩
  · have e1 : (l.take e).take k = l.take k := by rw [List.take_take, Nat.min_eq_left h1]
    rw [hT, ← List.append_assoc]
    conv => lhs; rw [← List.take_append_drop e l, ← List.take_append_drop k (l.take e), e1]
  · intro c hc
    obtain ⟨j, hj, rfl⟩ := getD_mem hc
    rw [List.length_take] at hj
    have := h3 j (by omega)
    simpa [List.getD_eq_getElem?_getD, List.getElem?_take_of_lt (show j < k by omega)] using this
  · intro c hc
    obtain ⟨j, hj, rfl⟩ := getD_mem hc
    rw [List.length_drop] at hj
    have := h4 (e + j) (by omega) (by omega)
    simpa [List.getD_eq_getElem?_getD, List.getElem?_drop] using this
  · intro c r hcr
    have hpos : 0 < e - k := by rw [← hlen, hcr]; simp
    have := hm 0 hpos
    rw [hcr] at this
    have e2 : c = l.getD k 0 := by simpa using this
    rw [e2]; exact h5 (by omega)
  · intro c r hcr
    have hr : e - k = r.length + 1 := by rw [← hlen, hcr]; simp
    have := hm r.length (by omega)
    rw [hcr] at this
    have e2 : c = l.getD (k + r.length) 0 := by simpa [List.getD_eq_getElem?_getD] using this
    rw [e2, show k + r.length = e - 1 by omega]; exact h6 (by omega)
theorem trim_trim (l : List UInt8) : trimL (trimL l) = trimL l := by
  obtain ⟨a, b, hl, ha, hb, h1, h2⟩ := trim_split l
  have := trim_char [] (trimL l) [] (by simp) (by simp) h1 h2
  simpa using this
theorem low_low (l : List UInt8) : lowL (lowL l) = lowL l := by
  have h : ∀ c, lowB (lowB c) = lowB c := fun c => by
    have hc := c.toNat_lt
    have e : ((lowB c).toNat : Int) = lowI c.toNat := by
      unfold lowB; rw [UInt8.toNat_ofNat']; unfold lowI; split <;> omega
    apply lowB_inj
    rw [e]
    unfold lowI
    split
    · omega
    · omega
  simp only [lowL_map, List.map_map]
  exact List.map_congr_left fun c _ => h c
end
section
theorem trim_le (l : List UInt8) : (trimL l).length ≤ l.length := by
  obtain ⟨a, b, h, _⟩ := trim_split l
  have := congrArg List.length h
  simp at this; omega
end
section
/-- the pieces of a list at a separator outside quoted strings; the piece that has been begun -/
def cutF (sep : UInt8) : Nat → Bool → List UInt8 → List UInt8 → List (List UInt8)
  | 0, _, _, acc => [acc]
  | _ + 1, _, [], acc => [acc]
  | f + 1, q, c :: r, acc =>
    if q = true ∧ c = 92 then (match r with | [] => [acc ++ [c]] | d :: r2 => cutF sep f q r2 (acc ++ [c, d]))
    else if c = 34 then cutF sep f (!q) r (acc ++ [c])
    else if c = sep ∧ q = false then acc :: cutF sep f q r []
    else cutF sep f q r (acc ++ [c])
def cutL (sep : UInt8) (l : List UInt8) : List (List UInt8) := cutF sep l.length false l []
/-- is a byte behind the list within a quoted string? -/
def endF : Nat → Bool → List UInt8 → Bool
  | 0, q, _ => q
  | _ + 1, q, [] => q
  | f + 1, q, c :: r =>
    if q = true ∧ c = 92 then (match r with | [] => true | _ :: r2 => endF f q r2)
    else if c = 34 then endF f (!q) r
    else endF f q r
def memL (ps : List (List UInt8)) : List (List UInt8) := (ps.map trimL).filter (fun p => !p.isEmpty)
def splitL (l : List UInt8) : List (List UInt8) := (memL (cutL 44 l)).take 64
def joinC : List (List UInt8) → List UInt8
  | [] => []
  | [m] => m
  | m :: ms => m ++ [44, 32] ++ joinC ms
theorem cutF_fuel {sep : UInt8} : ∀ (f g : Nat) (q : Bool) (l acc : List UInt8), l.length ≤ f → l.length ≤ g → cutF sep f q l acc = cutF sep g q l acc
  | f, g, q, [], acc, _, _ => by cases f <;> cases g <;> rfl
  | 0, g, q, c :: r, acc, h, _ => by simp at h
  | f + 1, 0, q, c :: r, acc, _, h => by simp at h
  | f + 1, g + 1, q, c :: r, acc, hf, hg => by
    simp only [List.length_cons] at hf hg
    unfold cutF
    split
    · split
      · rfl
      · rename_i d r2
        simp only [List.length_cons] at hf hg
        exact cutF_fuel f g q r2 _ (by omega) (by omega)
    · split
      · exact cutF_fuel f g (!q) r _ (by omega) (by omega)
      · split
        · rw [cutF_fuel f g q r _ (by omega) (by omega)]
        · exact cutF_fuel f g q r _ (by omega) (by omega)
theorem cutF_cons (sep : UInt8) (f : Nat) (q : Bool) (c : UInt8) (r acc : List UInt8) : cutF sep (f + 1) q (c :: r) acc = if q = true ∧ c = 92 then (match r with | [] => [acc ++ [c]] | d :: r2 => cutF sep f q r2 (acc ++ [c, d])) else if c = 34 then cutF sep f (!q) r (acc ++ [c]) else if c = sep ∧ q = false then acc :: cutF sep f q r [] else cutF sep f q r (acc ++ [c]) := rfl
theorem endF_cons (f : Nat) (q : Bool) (c : UInt8) (r : List UInt8) : endF (f + 1) q (c :: r) = if q = true ∧ c = 92 then (match r with | [] => true | _ :: r2 => endF f q r2) else if c = 34 then endF f (!q) r else endF f q r := rfl
theorem cutF_nil (sep : UInt8) (f : Nat) (q : Bool) (acc : List UInt8) : cutF sep f q [] acc = [acc] := by cases f <;> rfl
theorem endF_nil (f : Nat) (q : Bool) : endF f q [] = q := by cases f <;> rfl
theorem memL_append (a b : List (List UInt8)) : memL (a ++ b) = memL a ++ memL b := by unfold memL; rw [List.map_append, List.filter_append]
theorem memL_one {p : List UInt8} (h : trimL p ≠ []) : memL [p] = [trimL p] := by
  unfold memL
  cases hq : trimL p with
  | nil => exact absurd hq h
  | cons c r => simp [hq]
end
section
/-- no separator outside quoted strings -/
def ncF (sep : UInt8) : Nat → Bool → List UInt8 → Bool
  | 0, _, _ => true
  | _ + 1, _, [] => true
  | f + 1, q, c :: r =>
    if q = true ∧ c = 92 then (match r with | [] => true | _ :: r2 => ncF sep f q r2)
    else if c = 34 then ncF sep f (!q) r
    else if c = sep ∧ q = false then false
    else ncF sep f q r
def ncL (sep : UInt8) (q : Bool) (l : List UInt8) : Bool := ncF sep l.length q l
theorem ncF_cons (sep : UInt8) (f : Nat) (q : Bool) (c : UInt8) (r : List UInt8) : ncF sep (f + 1) q (c :: r) = if q = true ∧ c = 92 then (match r with | [] => true | _ :: r2 => ncF sep f q r2) else if c = 34 then ncF sep f (!q) r else if c = sep ∧ q = false then false else ncF sep f q r := rfl
theorem ncF_fuel {sep : UInt8} : ∀ (f g : Nat) (q : Bool) (l : List UInt8), l.length ≤ f → l.length ≤ g → ncF sep f q l = ncF sep g q l
  | f, g, q, [], _, _ => by cases f <;> cases g <;> rfl
  | 0, g, q, c :: r, h, _ => by simp at h
  | f + 1, 0, q, c :: r, _, h => by simp at h
  | f + 1, g + 1, q, c :: r, hf, hg => by
    simp only [List.length_cons] at hf hg
    rw [ncF_cons, ncF_cons]
    split
    · match r, hf, hg with
      | [], _, _ => rfl
      | d :: r2, hf, hg =>
        simp only [List.length_cons] at hf hg
        exact ncF_fuel f g q r2 (by omega) (by omega)
    · split
      · exact ncF_fuel f g (!q) r (by omega) (by omega)
      · split
        · rfl
        · exact ncF_fuel f g q r (by omega) (by omega)
theorem nc_esc {sep : UInt8} {q : Bool} {c d : UInt8} {r : List UInt8} (h : q = true ∧ c = 92) : ncL sep q (c :: d :: r) = ncL sep q r := by
  unfold ncL
  show ncF sep (r.length + 1 + 1) q (c :: d :: r) = _
  rw [ncF_cons, if_pos h]
  exact ncF_fuel _ _ q r (by omega) (by omega)
theorem nc_quo {sep : UInt8} {q : Bool} {c : UInt8} {r : List UInt8} (h1 : ¬ (q = true ∧ c = 92)) (h : c = 34) : ncL sep q (c :: r) = ncL sep (!q) r := by
  unfold ncL
  show ncF sep (r.length + 1) q (c :: r) = _
  rw [ncF_cons, if_neg h1, if_pos h]
theorem nc_any {sep : UInt8} {q : Bool} {c : UInt8} {r : List UInt8} (h1 : ¬ (q = true ∧ c = 92)) (h2 : c ≠ 34) (h : ¬ (c = sep ∧ q = false)) : ncL sep q (c :: r) = ncL sep q r := by
  unfold ncL
  show ncF sep (r.length + 1) q (c :: r) = _
  rw [ncF_cons, if_neg h1, if_neg h2, if_neg h]
end
section
abbrev F := ByteArray × ByteArray
/-- has the name -/
def nmd (nm : ByteArray) (p : F) : Bool := foldL p.1.data.toList nm.data.toList
def getL (nm : ByteArray) (L : List F) : List ByteArray := (L.filter (nmd nm)).map (·.2)
theorem take_next {α : Type} {L : List α} {k : Nat} (h : k < L.length) : L.take (k + 1) = L.take k ++ [L[k]] := List.take_succ_eq_append_getElem h
/-- the place of the first one with the name, or -1 -/
def idxL (nm : ByteArray) (L : List F) : Int := if L.any (nmd nm) then ((L.takeWhile fun p => !nmd nm p).length : Int) else -1
theorem none_not {nm : ByteArray} {l : List F} (h : l.any (nmd nm) = false) : ∀ p ∈ l, nmd nm p = false := fun p hp => by
  have := List.any_eq_false.mp h p hp; simpa using this
theorem none_more {nm : ByteArray} {L : List F} {k : Nat} (h : k < L.length) (ha : (L.take k).any (nmd nm) = false) (h1 : nmd nm L[k] = false) : (L.take (k + 1)).any (nmd nm) = false := by
  rw [take_next h, List.any_append, ha]; simp [h1]
theorem split_at {α : Type} {L : List α} {k : Nat} (h : k < L.length) : L = L.take k ++ L[k] :: L.drop (k + 1) := by
  rw [← List.drop_eq_getElem_cons h, List.take_append_drop]
theorem while_not {nm : ByteArray} {l r : List F} (h : l.any (nmd nm) = false) : (l ++ r).takeWhile (fun p => !nmd nm p) = l ++ r.takeWhile (fun p => !nmd nm p) :=
  List.takeWhile_append_of_pos (fun p hp => by rw [none_not h p hp]; rfl)
theorem idx_hit {nm : ByteArray} {L : List F} {k : Nat} (h : k < L.length) (ha : (L.take k).any (nmd nm) = false) (h1 : nmd nm L[k] = true) : idxL nm L = k := by
  have e := split_at h
  have hany : L.any (nmd nm) = true := List.any_eq_true.mpr ⟨L[k], List.getElem_mem h, h1⟩
  unfold idxL
  rw [if_pos hany]
  have : (L.takeWhile fun p => !nmd nm p) = L.take k := by
    conv => lhs; rw [e]
    rw [while_not ha, List.takeWhile_cons, h1]; simp
  rw [this, List.length_take, Nat.min_eq_left (Nat.le_of_lt h)]
theorem idx_end {nm : ByteArray} {L : List F} (ha : (L.take L.length).any (nmd nm) = false) : idxL nm L = -1 := by
  rw [List.take_length] at ha
  unfold idxL; rw [if_neg (by simp [ha])]
theorem idx_any {nm : ByteArray} {L : List F} : decide (0 ≤ idxL nm L) = L.any (nmd nm) := by
  unfold idxL
  rcases h : L.any (nmd nm) with _ | _ <;> simp
end
section
def allF (vs : List ByteArray) : List (List UInt8) := vs.flatMap fun v => splitL v.data.toList
def allL (nm : ByteArray) (L : List F) : List (List UInt8) := (allF (getL nm L)).take 64
theorem take_two {α : Type} (A B : List α) (n : Nat) : (A.take n ++ B.take n).take n = (A ++ B).take n := by
  rw [List.take_append, List.take_append, List.take_take, Nat.min_self, List.length_take]
  by_cases h : A.length ≤ n
  · rw [Nat.min_eq_right h, List.take_take, Nat.min_eq_left (by omega)]
  · have e1 : n - min n A.length = 0 := by omega
    have e2 : n - A.length = 0 := by omega
    rw [e1, e2]; simp
theorem allF_more {vs : List ByteArray} {k : Nat} (h : k < vs.length) : (allF (vs.take (k + 1))).take 64 = ((allF (vs.take k)).take 64 ++ splitL vs[k].data.toList).take 64 := by
  have e : vs.take (k + 1) = vs.take k ++ [vs[k]] := by rw [List.take_add_one, List.getElem?_eq_getElem h]; rfl
  rw [e]
  unfold allF
  rw [List.flatMap_append]
  simp only [List.flatMap_cons, List.flatMap_nil, List.append_nil]
  have hs : splitL vs[k].data.toList = (splitL vs[k].data.toList).take 64 := by
    rw [List.take_of_length_le]; unfold splitL; rw [List.length_take]; omega
  have t := take_two (vs.take k |>.flatMap fun v => splitL v.data.toList) (splitL vs[k].data.toList) 64
  rw [← hs] at t
  exact t.symm
/-- sizes: a piece is no longer than the list, nor is a member -/
theorem cut_small {sep : UInt8} : ∀ (f : Nat) (q : Bool) (l acc : List UInt8), ∀ p ∈ cutF sep f q l acc, p.length ≤ acc.length + l.length
  | f, q, [], acc, p, hp => by rw [cutF_nil, List.mem_singleton] at hp; subst hp; simp
  | 0, q, c :: r, acc, p, hp => by
    unfold cutF at hp
    rw [List.mem_singleton] at hp; subst hp; simp
  | f + 1, q, c :: r, acc, p, hp => by
    rw [cutF_cons] at hp
    simp only [List.length_cons]
    split at hp
    · match r, hp with
      | [], hp => simp only [List.mem_singleton] at hp; subst hp; simp
      | d :: r2, hp =>
        have := cut_small f q r2 _ p hp
        simp only [List.length_append, List.length_cons, List.length_nil] at this ⊢; omega
    · split at hp
      · have := cut_small f (!q) r _ p hp
        simp only [List.length_append, List.length_cons, List.length_nil] at this ⊢; omega
      · split at hp
        · rcases List.mem_cons.mp hp with e | hp
          · subst e; omega
          · have := cut_small f q r [] p hp
            simp only [List.length_nil] at this; omega
        · have := cut_small f q r _ p hp
          simp only [List.length_append, List.length_cons, List.length_nil] at this ⊢; omega
theorem cut_count {sep : UInt8} : ∀ (f : Nat) (q : Bool) (l acc : List UInt8), (cutF sep f q l acc).length ≤ l.length + 1
  | f, q, [], acc => by rw [cutF_nil]; simp
  | 0, q, c :: r, acc => by unfold cutF; simp
  | f + 1, q, c :: r, acc => by
    rw [cutF_cons]
    simp only [List.length_cons]
    split
    · match r with
      | [] => simp
      | d :: r2 =>
        have := cut_count (sep := sep) f q r2 (acc ++ [c, d])
        simp only [List.length_cons] at this ⊢; omega
    · split
      · have := cut_count (sep := sep) f (!q) r (acc ++ [c]); omega
      · split
        · have := cut_count (sep := sep) f q r []
          simp only [List.length_cons] at this ⊢; omega
        · have := cut_count (sep := sep) f q r (acc ++ [c]); omega
/-- joined, one after another -/
def joinP : List (List UInt8) → List UInt8 → List UInt8
  | [], acc => acc
  | m :: ms, acc => joinP ms (acc ++ [44, 32] ++ m)
theorem joinP_app : ∀ (ms : List (List UInt8)) (acc : List UInt8), joinP ms acc = acc ++ ms.flatMap (fun m => [44, 32] ++ m)
  | [], acc => by simp [joinP]
  | m :: ms, acc => by rw [joinP, joinP_app ms]; simp
theorem joinL_cons (m : List UInt8) : ∀ ms : List (List UInt8), joinC (m :: ms) = joinP ms m
  | [] => rfl
  | m2 :: ms => by
    rw [joinP_app]
    show m ++ [44, 32] ++ joinC (m2 :: ms) = _
    rw [joinL_cons m2 ms, joinP_app]; simp
theorem joinC_more {ms : List (List UInt8)} {k : Nat} (h : k < ms.length) : joinC (ms.take (k + 1)) = if k = 0 then ms[k] else joinC (ms.take k) ++ [44, 32] ++ ms[k] := by
  match ms, k, h with
  | m :: ms, 0, h => rfl
  | m :: ms, k + 1, h =>
    simp only [List.length_cons] at h
    have hk : k < ms.length := by omega
    rw [if_neg (by omega), List.take_succ_cons, List.take_succ_cons, joinL_cons, joinL_cons, joinP_app, joinP_app, List.take_add_one, List.getElem?_eq_getElem hk, List.flatMap_append]
    simp
end
section
/-- where a cut stands: at place k, the piece begun at place n -/
def cutAt (sep : UInt8) (l : List UInt8) (q : Bool) (k n : Nat) : List (List UInt8) := cutF sep (l.length - k) q (l.drop k) ((l.take k).drop n)
theorem cut_start (sep : UInt8) (l : List UInt8) : cutL sep l = cutAt sep l false 0 0 := by unfold cutL cutAt; simp
theorem acc_next {l : List UInt8} {k n : Nat} (hk : k < l.length) (hn : n ≤ k) : (l.take k).drop n ++ [l[k]] = (l.take (k + 1)).drop n := by
  rw [List.take_add_one, List.getElem?_eq_getElem hk, List.drop_append_of_le_length (by rw [List.length_take]; omega)]; rfl
theorem cut_fuel1 {l : List UInt8} {k : Nat} (hk : k < l.length) : l.length - k = (l.length - (k + 1)) + 1 := by omega
theorem cut_drop {l : List UInt8} {k : Nat} (hk : k < l.length) : l.drop k = l[k] :: l.drop (k + 1) := List.drop_eq_getElem_cons hk
theorem cut_out {sep : UInt8} {l : List UInt8} {q : Bool} {k n : Nat} (hk : l.length ≤ k) : cutAt sep l q k n = [l.drop n] := by
  unfold cutAt; rw [List.drop_of_length_le hk, cutF_nil, List.take_of_length_le hk]
theorem cut_esc {sep : UInt8} {l : List UInt8} {k n : Nat} (hk : k < l.length) (hn : n ≤ k) (h : l[k] = 92) : cutAt sep l true k n = cutAt sep l true (k + 2) n := by
  unfold cutAt
  rw [cut_fuel1 hk, cut_drop hk, cutF_cons, if_pos ⟨rfl, h⟩]
  by_cases h2 : k + 1 < l.length
  · rw [cut_drop h2]
    simp only
    have e : (l.take k).drop n ++ [l[k], l[k + 1]] = (l.take (k + 2)).drop n := by
      rw [← acc_next h2 (by omega), ← acc_next hk hn, List.append_assoc]; rfl
    rw [e]
    exact cutF_fuel _ _ _ _ _ (by rw [List.length_drop]; omega) (by rw [List.length_drop]; omega)
  · have e1 : l.drop (k + 1) = [] := List.drop_of_length_le (by omega)
    have e2 : l.drop (k + 2) = [] := List.drop_of_length_le (by omega)
    have e3 : l.take (k + 2) = l.take (k + 1) := by rw [List.take_of_length_le (by omega), List.take_of_length_le (by omega)]
    rw [e1, e2, cutF_nil, e3, ← acc_next hk hn]
theorem cut_quo {sep : UInt8} {l : List UInt8} {q : Bool} {k n : Nat} (hk : k < l.length) (hn : n ≤ k) (h1 : ¬ (q = true ∧ l[k] = 92)) (h : l[k] = 34) : cutAt sep l q k n = cutAt sep l (!q) (k + 1) n := by
  unfold cutAt
  rw [cut_fuel1 hk, cut_drop hk, cutF_cons, if_neg h1, if_pos h, acc_next hk hn]
theorem cut_sep {sep : UInt8} {l : List UInt8} {k n : Nat} (hk : k < l.length) (h2 : l[k] ≠ 34) (h : l[k] = sep) : cutAt sep l false k n = (l.take k).drop n :: cutAt sep l false (k + 1) (k + 1) := by
  unfold cutAt
  rw [cut_fuel1 hk, cut_drop hk, cutF_cons, if_neg (by simp), if_neg h2, if_pos ⟨h, rfl⟩, List.drop_of_length_le (l := l.take (k + 1)) (by rw [List.length_take]; omega)]
theorem cut_any {sep : UInt8} {l : List UInt8} {q : Bool} {k n : Nat} (hk : k < l.length) (hn : n ≤ k) (h1 : ¬ (q = true ∧ l[k] = 92)) (h2 : l[k] ≠ 34) (h : ¬ (l[k] = sep ∧ q = false)) : cutAt sep l q k n = cutAt sep l q (k + 1) n := by
  unfold cutAt
  rw [cut_fuel1 hk, cut_drop hk, cutF_cons, if_neg h1, if_neg h2, if_neg h, acc_next hk hn]
end
section
/-- a parameter: name, '=', a token or a quoted string -/
def paramL (x : List UInt8) : Option F :=
  if cutB 61 x = false ∨ tokL (cut1 61 x) = false then none
  else if tokL (cut2 61 x) = true then some (bs (lowL (cut1 61 x)), bs (cut2 61 x))
  else match unqL (cut2 61 x) with
    | some u => some (bs (lowL (cut1 61 x)), bs u)
    | none => none
/-- the parameters of pieces; those before them -/
def parF : List (List UInt8) → List F → Option (List F)
  | [], acc => some acc
  | p :: ps, acc => if trimL p = [] then parF ps acc else match paramL (trimL p) with
    | some f => parF ps (acc ++ [f])
    | none => none
def parL (s : List UInt8) : Option (List UInt8 × List F) := match cutL 59 s with
  | [] => none
  | v :: ps => if trimL v = [] then none else match parF ps [] with
    | some L => some (trimL v, L)
    | none => none
def valP (v : List UInt8) : List UInt8 := if tokL v = true then v else quoteL v
def oneP (p : F) : List UInt8 := p.1.data.toList ++ 61 :: valP p.2.data.toList
def fmtPL (v : List UInt8) (L : List F) : List UInt8 := v ++ L.flatMap fun p => 59 :: oneP p
/-- is a byte behind the list within a quoted string? (as endF, with its own length) -/
def endQ (q : Bool) (l : List UInt8) : Bool := endF l.length q l
theorem endF_fuel : ∀ (f g : Nat) (q : Bool) (l : List UInt8), l.length ≤ f → l.length ≤ g → endF f q l = endF g q l := by
  intro f
  induction f with
  | zero => intro g q l hf hg; have : l = [] := List.eq_nil_of_length_eq_zero (by omega); subst this; rw [endF_nil, endF_nil]
  | succ f ih =>
    intro g q l hf hg
    match l, g with
    | [], g => rw [endF_nil, endF_nil]
    | c :: r, 0 => simp at hg
    | c :: r, g + 1 =>
      simp only [List.length_cons] at hf hg
      rw [endF_cons, endF_cons]
      split
      · match r, hf, hg with
        | [], _, _ => rfl
        | d :: r2, hf, hg =>
          simp only [List.length_cons] at hf hg
          exact ih g q r2 (by omega) (by omega)
      · split
        · exact ih g (!q) r (by omega) (by omega)
        · exact ih g q r (by omega) (by omega)
theorem endL_esc (d : UInt8) (r : List UInt8) : endQ true (92 :: d :: r) = endQ true r := by
  unfold endQ
  show endF (r.length + 1 + 1) true (92 :: d :: r) = _
  rw [endF_cons, if_pos ⟨rfl, rfl⟩]
  exact endF_fuel _ _ _ _ (by omega) (by omega)
theorem endL_quo {q : Bool} {c : UInt8} {r : List UInt8} (h1 : ¬ (q = true ∧ c = 92)) (h : c = 34) : endQ q (c :: r) = endQ (!q) r := by
  unfold endQ
  show endF (r.length + 1) q (c :: r) = _
  rw [endF_cons, if_neg h1, if_pos h]
theorem endL_any {q : Bool} {c : UInt8} {r : List UInt8} (h1 : ¬ (q = true ∧ c = 92)) (h : c ≠ 34) : endQ q (c :: r) = endQ q r := by
  unfold endQ
  show endF (r.length + 1) q (c :: r) = _
  rw [endF_cons, if_neg h1, if_neg h]
/-- what has been escaped, a quote behind it, leads out of the quoted string -/
theorem end_quoted (y : List UInt8) : ∀ l : List UInt8, endQ true (escL l ++ 34 :: y) = endQ false y
  | [] => endL_quo (by simp) rfl
  | c :: r => by
    have e : escL (c :: r) = escB c ++ escL r := rfl
    rw [e]
    unfold escB
    by_cases h : c = 34 ∨ c = 92
    · rw [if_pos h]
      show endQ true (92 :: c :: (escL r ++ 34 :: y)) = _
      rw [endL_esc]; exact end_quoted y r
    · rw [if_neg h]
      show endQ true (c :: (escL r ++ 34 :: y)) = _
      rw [endL_any (fun q => h (.inr q.2)) (fun q => h (.inl q))]; exact end_quoted y r
theorem nc_quoted (sep : UInt8) (y : List UInt8) : ∀ l : List UInt8, ncL sep true (escL l ++ 34 :: y) = ncL sep false y
  | [] => nc_quo (by simp) rfl
  | c :: r => by
    have e : escL (c :: r) = escB c ++ escL r := rfl
    rw [e]
    unfold escB
    by_cases h : c = 34 ∨ c = 92
    · rw [if_pos h]
      show ncL sep true (92 :: c :: (escL r ++ 34 :: y)) = _
      rw [nc_esc ⟨rfl, rfl⟩]; exact nc_quoted sep y r
    · rw [if_neg h]
      show ncL sep true (c :: (escL r ++ 34 :: y)) = _
      rw [nc_any (fun q => h (.inr q.2)) (fun q => h (.inl q)) (by simp)]; exact nc_quoted sep y r
/-- a piece: no separator outside quoted strings, none of which is open at its end -/
def Piece (sep : UInt8) (p : List UInt8) : Prop := ncL sep false p = true ∧ endQ false p = false
theorem Piece.nil (sep : UInt8) : Piece sep [] := ⟨rfl, rfl⟩
theorem Piece.cons {sep c : UInt8} {p : List UInt8} (h1 : c ≠ 34) (h2 : c ≠ sep) (h : Piece sep p) : Piece sep (c :: p) :=
  ⟨by rw [nc_any (by simp) h1 (fun q => h2 q.1)]; exact h.1, by rw [endL_any (by simp) h1]; exact h.2⟩
theorem Piece.plain {sep : UInt8} : ∀ {a p : List UInt8}, (∀ c ∈ a, c ≠ 34 ∧ c ≠ sep) → Piece sep p → Piece sep (a ++ p)
  | [], p, _, h => h
  | c :: r, p, ha, h => Piece.cons (ha c (by simp)).1 (ha c (by simp)).2 (Piece.plain (fun d hd => ha d (by simp [hd])) h)
theorem Piece.quote (sep : UInt8) (l : List UInt8) {p : List UInt8} (h : Piece sep p) : Piece sep (quoteL l ++ p) := by
  have e : quoteL l ++ p = 34 :: (escL l ++ 34 :: p) := by unfold quoteL; simp
  rw [e]
  exact ⟨by rw [nc_quo (by simp) rfl]; exact (nc_quoted sep p l).trans h.1, by rw [endL_quo (by simp) rfl]; exact (end_quoted p l).trans h.2⟩
theorem tok_byte {l : List UInt8} (h : tokL l = true) : ∀ c ∈ l, tokI c.toNat = true := by
  unfold tokL at h
  rw [Bool.and_eq_true] at h
  exact fun c hc => List.all_eq_true.mp h.2 c hc
theorem tok_ne {l : List UInt8} (h : tokL l = true) : l ≠ [] := by
  unfold tokL at h
  intro e; rw [e] at h; simp at h
theorem val_tok {v : List UInt8} (h : tokL v = true) : valP v = v := by unfold valP; rw [if_pos h]
theorem val_not {v : List UInt8} (h : tokL v = false) : valP v = quoteL v := by unfold valP; rw [h]; rfl
end
section
theorem parF_step {p : List UInt8} {ps : List (List UInt8)} {acc : List F} {f : F} (h0 : trimL p ≠ []) (h : paramL (trimL p) = some f) : parF (p :: ps) acc = parF ps (acc ++ [f]) := by
  show (if trimL p = [] then parF ps acc else match paramL (trimL p) with | some f => parF ps (acc ++ [f]) | none => none) = _
  rw [if_neg h0, h]
theorem parF_skip {p : List UInt8} {ps : List (List UInt8)} {acc : List F} (h0 : trimL p = []) : parF (p :: ps) acc = parF ps acc := by
  show (if trimL p = [] then parF ps acc else match paramL (trimL p) with | some f => parF ps (acc ++ [f]) | none => none) = _
  rw [if_pos h0]
end
section
def parA (l : List UInt8) : ByteArray := match parL l with | some (v, _) => bs v | none => ⟨#[]⟩
def parB (l : List UInt8) : List F := match parL l with | some (_, L) => L | none => []
def parO (l : List UInt8) : Bool := (parL l).isSome
theorem cutF_ne {sep : UInt8} : ∀ (f : Nat) (q : Bool) (l acc : List UInt8), cutF sep f q l acc ≠ []
  | f, q, [], acc => by rw [cutF_nil]; simp
  | 0, q, c :: r, acc => by unfold cutF; simp
  | f + 1, q, c :: r, acc => by
    rw [cutF_cons]
    split
    · match r with
      | [] => simp
      | d :: r2 => exact cutF_ne f q r2 _
    · split
      · exact cutF_ne f (!q) r _
      · split
        · simp
        · exact cutF_ne f q r _
theorem cut_first (sep : UInt8) (l : List UInt8) : ∃ v ps, cutL sep l = v :: ps := by
  cases h : cutL sep l with
  | nil => exact absurd h (cutF_ne _ _ _ _)
  | cons v ps => exact ⟨v, ps, rfl⟩
theorem par_none0 {l v : List UInt8} {ps : List (List UInt8)} (h : cutL 59 l = v :: ps) (ht : trimL v = []) : parA l = ⟨#[]⟩ ∧ parB l = [] ∧ parO l = false := by
  unfold parA parB parO parL; rw [h]; simp only; rw [if_pos ht]; exact ⟨rfl, rfl, rfl⟩
theorem par_none1 {l v : List UInt8} {ps : List (List UInt8)} (h : cutL 59 l = v :: ps) (ht : trimL v ≠ []) (hp : parF ps [] = none) : parA l = ⟨#[]⟩ ∧ parB l = [] ∧ parO l = false := by
  unfold parA parB parO parL; rw [h]; simp only; rw [if_neg ht, hp]; exact ⟨rfl, rfl, rfl⟩
theorem par_some {l v : List UInt8} {ps : List (List UInt8)} {L : List F} (h : cutL 59 l = v :: ps) (ht : trimL v ≠ []) (hp : parF ps [] = some L) : parA l = bs (trimL v) ∧ parB l = L ∧ parO l = true := by
  unfold parA parB parO parL; rw [h]; simp only; rw [if_neg ht, hp]; exact ⟨rfl, rfl, rfl⟩
theorem parF_bad {p : List UInt8} {ps : List (List UInt8)} {acc : List F} (h0 : trimL p ≠ []) (h : paramL (trimL p) = none) : parF (p :: ps) acc = none := by
  show (if trimL p = [] then parF ps acc else match paramL (trimL p) with | some f => parF ps (acc ++ [f]) | none => none) = _
  rw [if_neg h0, h]
/-- one parameter, by the place of its '=' -/
theorem param_no {x : List UInt8} (h : Lib.indexByte x 61 = -1) : paramL x = none := by
  unfold paramL; rw [if_pos (.inl (cut_no h).2.2)]
theorem param_name {x : List UInt8} {o : Nat} (h : Lib.indexByte x 61 = (o : Int)) (ht : tokL (x.take o) = false) : paramL x = none := by
  obtain ⟨_, h1, _, _⟩ := cut_at h
  unfold paramL; rw [h1, if_pos (.inr ht)]
theorem param_tok {x : List UInt8} {o : Nat} (h : Lib.indexByte x 61 = (o : Int)) (ht : tokL (x.take o) = true) (hv : tokL (x.drop (o + 1)) = true) : paramL x = some (bs (lowL (x.take o)), bs (x.drop (o + 1))) := by
  obtain ⟨_, h1, h2, h3⟩ := cut_at h
  unfold paramL; rw [h1, h2, h3, if_neg (by rw [ht]; simp), if_pos hv]
theorem param_bad {x : List UInt8} {o : Nat} (h : Lib.indexByte x 61 = (o : Int)) (ht : tokL (x.take o) = true) (hv : tokL (x.drop (o + 1)) = false) (hu : unqL (x.drop (o + 1)) = none) : paramL x = none := by
  obtain ⟨_, h1, h2, h3⟩ := cut_at h
  unfold paramL; rw [h1, h2, h3, if_neg (by rw [ht]; simp), if_neg (by rw [hv]; simp), hu]
theorem param_quo {x u : List UInt8} {o : Nat} (h : Lib.indexByte x 61 = (o : Int)) (ht : tokL (x.take o) = true) (hv : tokL (x.drop (o + 1)) = false) (hu : unqL (x.drop (o + 1)) = some u) : paramL x = some (bs (lowL (x.take o)), bs u) := by
  obtain ⟨_, h1, h2, h3⟩ := cut_at h
  unfold paramL; rw [h1, h2, h3, if_neg (by rw [ht]; simp), if_neg (by rw [hv]; simp), hu]
end
section
/-- type, sub, parameters -/
abbrev M := ByteArray × ByteArray × List F
def typeL (v : List UInt8) : Option (ByteArray × ByteArray) :=
  if cutB 47 v = false then none
  else if tokL (cut1 47 v) = false then none
  else if tokL (cut2 47 v) = false then none
  else if cut1 47 v = [42] ∧ cut2 47 v ≠ [42] then none
  else some (bs (lowL (cut1 47 v)), bs (lowL (cut2 47 v)))
def rangeL (s : List UInt8) : Option M := match parL s with
  | none => none
  | some (v, L) => match typeL v with
    | none => none
    | some (a, b) => some (a, b, L)
def star : ByteArray := ⟨#[42]⟩
def mediaL (s : List UInt8) : Option M := match rangeL s with
  | none => none
  | some (a, b, L) => if a = star ∨ b = star then none else some (a, b, L)
def noM : M := (⟨#[]⟩, ⟨#[]⟩, [])
/-- the results in parts -/
def ofM (o : Option M) : M := o.getD noM
theorem type_no {v : List UInt8} (h : Lib.indexByte v 47 = -1) : typeL v = none := by
  unfold typeL; rw [if_pos (cut_no h).2.2]
theorem type_tok1 {v : List UInt8} {o : Nat} (h : Lib.indexByte v 47 = (o : Int)) (h1 : tokL (v.take o) = false) : typeL v = none := by
  obtain ⟨_, e1, e2, e3⟩ := cut_at h
  unfold typeL; rw [e1, e3, if_neg (by simp), if_pos h1]
theorem type_tok2 {v : List UInt8} {o : Nat} (h : Lib.indexByte v 47 = (o : Int)) (h1 : tokL (v.take o) = true) (h2 : tokL (v.drop (o + 1)) = false) : typeL v = none := by
  obtain ⟨_, e1, e2, e3⟩ := cut_at h
  unfold typeL; rw [e1, e2, e3, if_neg (by simp), if_neg (by rw [h1]; simp), if_pos h2]
theorem type_star {v : List UInt8} {o : Nat} (h : Lib.indexByte v 47 = (o : Int)) (h1 : tokL (v.take o) = true) (h2 : tokL (v.drop (o + 1)) = true) (h3 : v.take o = [42] ∧ v.drop (o + 1) ≠ [42]) : typeL v = none := by
  obtain ⟨_, e1, e2, e3⟩ := cut_at h
  unfold typeL; rw [e1, e2, e3, if_neg (by simp), if_neg (by rw [h1]; simp), if_neg (by rw [h2]; simp), if_pos h3]
theorem type_ok {v : List UInt8} {o : Nat} (h : Lib.indexByte v 47 = (o : Int)) (h1 : tokL (v.take o) = true) (h2 : tokL (v.drop (o + 1)) = true) (h3 : ¬ (v.take o = [42] ∧ v.drop (o + 1) ≠ [42])) : typeL v = some (bs (lowL (v.take o)), bs (lowL (v.drop (o + 1)))) := by
  obtain ⟨_, e1, e2, e3⟩ := cut_at h
  unfold typeL; rw [e1, e2, e3, if_neg (by simp), if_neg (by rw [h1]; simp), if_neg (by rw [h2]; simp), if_neg h3]
theorem range_par {s : List UInt8} (h : parO s = false) : rangeL s = none := by
  unfold parO at h; unfold rangeL
  cases hp : parL s with
  | none => rfl
  | some x => rw [hp] at h; simp at h
theorem range_type {s : List UInt8} {v : ByteArray} (h : parO s = true) (hv : parA s = v) : rangeL s = (typeL v.data.toList).map fun p => (p.1, p.2, parB s) := by
  unfold parO at h; unfold rangeL; unfold parA at hv; unfold parB
  cases hp : parL s with
  | none => rw [hp] at h; simp at h
  | some x =>
    obtain ⟨a, L⟩ := x
    rw [hp] at hv
    simp only at hv ⊢
    subst hv
    rw [bs_toList]
    cases typeL a with
    | none => rfl
    | some p => rfl
end
section
def chkT (n : Nat) : Bool := !tokI (n : Int) || (textI (n : Int) && tokI (lowB (UInt8.ofNat n)).toNat && UInt8.ofNat n != 47 && ((lowB (UInt8.ofNat n) == 42) == (UInt8.ofNat n == 42)) && !blankB (UInt8.ofNat n))
theorem chkT_all : ∀ x : Fin 256, chkT x.1 = true := by decide +kernel
theorem tok_more {c : UInt8} (h : tokI c.toNat = true) : textI c.toNat = true ∧ tokI (lowB c).toNat = true ∧ c ≠ 47 ∧ (lowB c = 42 ↔ c = 42) ∧ blankB c = false := by
  have k := chkT_all ⟨c.toNat, c.toNat_lt⟩
  unfold chkT at k
  simp only [UInt8.ofNat_toNat] at k
  rw [h] at k
  simp at k
  obtain ⟨⟨⟨⟨k1, k2⟩, k3⟩, k4⟩, k5⟩ := k
  exact ⟨k1, k2, k3, by rw [← beq_iff_eq, k4, beq_iff_eq], k5⟩
theorem tok_mk {l : List UInt8} (h0 : l ≠ []) (h : ∀ c ∈ l, tokI c.toNat = true) : tokL l = true := by
  unfold tokL allI
  rw [Bool.and_eq_true, List.all_eq_true]
  refine ⟨?_, h⟩
  cases l with
  | nil => exact absurd rfl h0
  | cons c r => rfl
theorem text_mk {l : List UInt8} (h : ∀ c ∈ l, textI c.toNat = true) : textL l = true := by
  unfold textL allI; rw [List.all_eq_true]; exact h
theorem text_byte {l : List UInt8} (h : textL l = true) : ∀ c ∈ l, textI c.toNat = true := by
  unfold textL allI at h; rw [List.all_eq_true] at h; exact h
theorem tok_text {l : List UInt8} (h : tokL l = true) : textL l = true := text_mk fun c hc => (tok_more (tok_byte h c hc)).1
theorem tok_low {l : List UInt8} (h : tokL l = true) : tokL (lowL l) = true := by
  refine tok_mk ?_ ?_
  · rw [lowL_map]; intro e; exact tok_ne h (List.map_eq_nil_iff.1 e)
  · intro c hc
    rw [lowL_map] at hc
    obtain ⟨d, hd, rfl⟩ := List.mem_map.1 hc
    exact (tok_more (tok_byte h d hd)).2.1
theorem low_star {l : List UInt8} (h : tokL l = true) : lowL l = [42] ↔ l = [42] := by
  rw [lowL_map]
  match l, h with
  | [c], h =>
    have := (tok_more (tok_byte h c (by simp))).2.2.2.1
    simp [this]
  | [], h => exact absurd rfl (tok_ne h)
  | _ :: _ :: _, h => simp
theorem unesc_facts : ∀ (n : Nat) (l t : List UInt8), l.length ≤ n → unescL l = some t → t.length ≤ l.length ∧ (textL l = true → textL t = true)
  | n, [], t, _, h => by unfold unescL at h; cases h; exact ⟨Nat.le_refl _, fun _ => rfl⟩
  | 0, c :: r, t, hl, _ => by simp at hl
  | n + 1, c :: r, t, hl, h => by
    simp only [List.length_cons] at hl
    by_cases h34 : c = 34
    · rw [h34, unescL_q] at h; cases h
    · by_cases h92 : c = 92
      · subst h92
        match r, hl, h with
        | [], _, h => rw [unescL_e] at h; cases h
        | d :: r, hl, h =>
          rw [unescL_b] at h
          obtain ⟨u, hu, rfl⟩ := Option.map_eq_some_iff.1 h
          simp only [List.length_cons] at hl
          obtain ⟨i1, i2⟩ := unesc_facts n r u (by omega) hu
          refine ⟨by simp only [List.length_cons]; omega, fun ht => text_mk ?_⟩
          have hb := text_byte ht
          intro x hx
          rcases List.mem_cons.1 hx with rfl | hx
          · exact hb _ (by simp)
          · exact text_byte (i2 (text_mk fun y hy => hb y (by simp [hy]))) x hx
      · rw [unescL_o c r h34 h92] at h
        obtain ⟨u, hu, rfl⟩ := Option.map_eq_some_iff.1 h
        obtain ⟨i1, i2⟩ := unesc_facts n r u (by omega) hu
        refine ⟨by simp only [List.length_cons]; omega, fun ht => text_mk ?_⟩
        have hb := text_byte ht
        intro x hx
        rcases List.mem_cons.1 hx with rfl | hx
        · exact hb _ (by simp)
        · exact text_byte (i2 (text_mk fun y hy => hb y (by simp [hy]))) x hx
theorem unq_facts {l t : List UInt8} (h : unqL l = some t) : t.length ≤ l.length ∧ textL t = true := by
  unfold unqL at h
  split at h
  · cases h
  · unfold unqIn at h
    split at h
    · rename_i ht
      obtain ⟨i1, i2⟩ := unesc_facts _ _ t (Nat.le_refl _) h
      refine ⟨?_, i2 ht⟩
      simp only [List.length_drop, List.length_take] at i1
      omega
    · cases h
theorem lowL_len (l : List UInt8) : (lowL l).length = l.length := by simp [lowL]
theorem cut_sizes10 {c : UInt8} {l : List UInt8} : (cut1 c l).length + (cut2 c l).length ≤ l.length := by
  unfold cut1 cut2
  have := congrArg List.length (List.takeWhile_append_dropWhile (p := (· != c)) (l := l))
  rw [List.length_append] at this
  rw [List.length_drop]; omega
/-- name in lower case, a token; the value a text -/
def GoodP (p : F) : Prop := tokL p.1.data.toList = true ∧ lowL p.1.data.toList = p.1.data.toList ∧ textL p.2.data.toList = true
theorem param_facts {x : List UInt8} {p : F} (h : paramL x = some p) : GoodP p ∧ p.1.size + p.2.size ≤ x.length := by
  have hs := cut_sizes10 (c := 61) (l := x)
  have hlow : (lowL (cut1 61 x)).length = (cut1 61 x).length := lowL_len _
  unfold paramL at h
  split at h
  · cases h
  · rename_i hc
    have ht : tokL (cut1 61 x) = true := by
      cases hh : tokL (cut1 61 x) with
      | true => rfl
      | false => exact absurd (.inr hh) hc
    split at h
    · rename_i hv
      cases h
      exact ⟨⟨tok_low ht, low_low _, tok_text hv⟩, by rw [bs_size, bs_size]; omega⟩
    · cases hu : unqL (cut2 61 x) with
      | none => rw [hu] at h; cases h
      | some u =>
        rw [hu] at h; cases h
        obtain ⟨u1, u2⟩ := unq_facts hu
        exact ⟨⟨tok_low ht, low_low _, u2⟩, by rw [bs_size, bs_size]; omega⟩
def szF (L : List F) : Nat := (L.map fun p => p.1.size + p.2.size).sum
theorem parF_facts : ∀ (ps : List (List UInt8)) (acc L : List F), parF ps acc = some L → (∀ p ∈ acc, GoodP p) → (∀ p ∈ L, GoodP p) ∧ szF L ≤ szF acc + (ps.map List.length).sum ∧ L.length ≤ acc.length + ps.length
  | [], acc, L, h, ha => by unfold parF at h; cases h; exact ⟨ha, by simp, by simp⟩
  | p :: ps, acc, L, h, ha => by
    unfold parF at h
    split at h
    · obtain ⟨i1, i2, i3⟩ := parF_facts ps acc L h ha
      exact ⟨i1, by simp only [List.map_cons, List.sum_cons]; omega, by simp only [List.length_cons]; omega⟩
    · cases hp : paramL (trimL p) with
      | none => rw [hp] at h; cases h
      | some f =>
        rw [hp] at h
        obtain ⟨g1, g2⟩ := param_facts hp
        have ht := trim_le p
        obtain ⟨i1, i2, i3⟩ := parF_facts ps (acc ++ [f]) L h (fun q hq => by
          rcases List.mem_append.1 hq with hq | hq
          · exact ha q hq
          · rw [List.mem_singleton.1 hq]; exact g1)
        refine ⟨i1, ?_, ?_⟩
        · have e : szF (acc ++ [f]) = szF acc + (f.1.size + f.2.size) := by simp [szF]
          rw [e] at i2
          simp only [List.map_cons, List.sum_cons]; omega
        · simp only [List.length_append, List.length_cons, List.length_nil] at i3 ⊢; omega
theorem cut_sum {sep : UInt8} : ∀ (f : Nat) (q : Bool) (l acc : List UInt8), ((cutF sep f q l acc).map List.length).sum ≤ acc.length + l.length
  | f, q, [], acc => by rw [cutF_nil]; simp
  | 0, q, c :: r, acc => by unfold cutF; simp
  | f + 1, q, c :: r, acc => by
    rw [cutF_cons]
    split
    · match r with
      | [] => simp
      | d :: r2 =>
        have := cut_sum (sep := sep) f q r2 (acc ++ [c, d])
        simp only [List.length_append, List.length_cons, List.length_nil] at this ⊢; omega
    · split
      · have := cut_sum (sep := sep) f (!q) r (acc ++ [c])
        simp only [List.length_append, List.length_cons, List.length_nil] at this ⊢; omega
      · split
        · have := cut_sum (sep := sep) f q r []
          simp only [List.map_cons, List.sum_cons, List.length_cons, List.length_nil] at this ⊢; omega
        · have := cut_sum (sep := sep) f q r (acc ++ [c])
          simp only [List.length_append, List.length_cons, List.length_nil] at this ⊢; omega
theorem par_facts {s v : List UInt8} {L : List F} (h : parL s = some (v, L)) : (∀ p ∈ L, GoodP p) ∧ v.length + szF L ≤ s.length ∧ L.length ≤ s.length ∧ trimL v = v ∧ v ≠ [] := by
  unfold parL at h
  cases hc : cutL 59 s with
  | nil => rw [hc] at h; cases h
  | cons x ps =>
    rw [hc] at h
    simp only at h
    split at h
    · cases h
    · rename_i hx
      cases hp : parF ps [] with
      | none => rw [hp] at h; cases h
      | some K =>
        rw [hp] at h
        cases h
        obtain ⟨i1, i2, i3⟩ := parF_facts ps [] L hp (by simp)
        have hsum := cut_sum (sep := 59) s.length false s []
        have hcnt := cut_count (sep := 59) s.length false s []
        rw [show cutF 59 s.length false s [] = x :: ps from hc] at hsum hcnt
        simp only [List.map_cons, List.sum_cons, List.length_nil, List.length_cons] at hsum hcnt
        have ht := trim_le x
        have e : szF [] = 0 := rfl
        rw [e] at i2
        simp only [List.length_nil] at i3
        exact ⟨i1, by omega, by omega, trim_trim x, hx⟩
theorem type_facts {v : List UInt8} {a b : ByteArray} (h : typeL v = some (a, b)) :
    tokL a.data.toList = true ∧ tokL b.data.toList = true ∧ lowL a.data.toList = a.data.toList ∧ lowL b.data.toList = b.data.toList ∧ ¬ (a.data.toList = [42] ∧ b.data.toList ≠ [42]) ∧ a.size + b.size ≤ v.length := by
  unfold typeL at h
  split at h
  · cases h
  · split at h
    · cases h
    · rename_i h1
      split at h
      · cases h
      · rename_i h2
        split at h
        · cases h
        · rename_i h3
          cases h
          have t1 : tokL (cut1 47 v) = true := by simpa using h1
          have t2 : tokL (cut2 47 v) = true := by simpa using h2
          refine ⟨tok_low t1, tok_low t2, low_low _, low_low _, ?_, ?_⟩
          · rw [bs_toList, bs_toList, low_star t1]
            intro q
            exact h3 ⟨q.1, fun e => q.2 ((low_star t2).2 e)⟩
          · rw [bs_size, bs_size, lowL_len, lowL_len]; exact cut_sizes10
theorem range_facts {s : List UInt8} {a b : ByteArray} {L : List F} (h : rangeL s = some (a, b, L)) :
    (tokL a.data.toList = true ∧ tokL b.data.toList = true ∧ lowL a.data.toList = a.data.toList ∧ lowL b.data.toList = b.data.toList ∧ ¬ (a.data.toList = [42] ∧ b.data.toList ≠ [42])) ∧ (∀ p ∈ L, GoodP p) ∧ a.size + b.size + szF L ≤ s.length ∧ L.length ≤ s.length := by
  unfold rangeL at h
  cases hp : parL s with
  | none => rw [hp] at h; cases h
  | some y =>
    obtain ⟨v, K⟩ := y
    rw [hp] at h
    simp only at h
    cases ht : typeL v with
    | none => rw [ht] at h; cases h
    | some z =>
      obtain ⟨c, d⟩ := z
      rw [ht] at h
      cases h
      obtain ⟨p1, p2, p3, _, _⟩ := par_facts hp
      obtain ⟨t1, t2, t3, t4, t5, t6⟩ := type_facts ht
      exact ⟨⟨t1, t2, t3, t4, t5⟩, p1, by omega, p3⟩
theorem szF_mem {p : F} : ∀ {L : List F}, p ∈ L → p.1.size + p.2.size ≤ szF L
  | q :: L, h => by
    have e : szF (q :: L) = q.1.size + q.2.size + szF L := by simp [szF]
    rw [e]
    rcases List.mem_cons.1 h with rfl | h
    · omega
    · have := szF_mem h; omega
theorem szF_at {L : List F} {i : Nat} (h : i < L.length) : L[i].1.size + L[i].2.size ≤ szF L := szF_mem (List.getElem_mem h)
end
section
/-- the pieces between hyphens -/
def subL : List UInt8 → List (List UInt8)
  | [] => [[]]
  | c :: r => if c = 45 then [] :: subL r else match subL r with
    | [] => [[c]]
    | x :: xs => (c :: x) :: xs
theorem subL_cons (l : List UInt8) : ∃ x xs, subL l = x :: xs := by
  match l with
  | [] => exact ⟨_, _, rfl⟩
  | c :: r =>
    unfold subL
    split
    · exact ⟨_, _, rfl⟩
    · split
      · exact ⟨_, _, rfl⟩
      · exact ⟨_, _, rfl⟩
theorem subL_hyp (r : List UInt8) : subL (45 :: r) = [] :: subL r := by show (if (45 : UInt8) = 45 then _ else _) = _; rw [if_pos rfl]
theorem subL_chr {c : UInt8} {r x : List UInt8} {xs : List (List UInt8)} (hc : ¬ c = 45) (e : subL r = x :: xs) : subL (c :: r) = (c :: x) :: xs := by
  show (if c = 45 then [] :: subL r else match subL r with | [] => [[c]] | x :: xs => (c :: x) :: xs) = _
  rw [if_neg hc, e]
theorem sub_no : ∀ {l : List UInt8}, (45 : UInt8) ∉ l → subL l = [l]
  | [], _ => rfl
  | c :: r, h => by
    have hc : ¬ c = 45 := fun e => h (by simp [e])
    exact subL_chr hc (sub_no (l := r) (fun e => h (by simp [e])))
theorem sub_at : ∀ {a b : List UInt8}, (45 : UInt8) ∉ a → subL (a ++ 45 :: b) = a :: subL b
  | [], b, _ => subL_hyp b
  | c :: r, b, h => by
    have hc : ¬ c = 45 := fun e => h (by simp [e])
    exact subL_chr hc (sub_at (a := r) (fun e => h (by simp [e])))
theorem sub_mem : ∀ (l : List UInt8), ∀ x ∈ subL l, (45 : UInt8) ∉ x ∧ x.length ≤ l.length
  | [], x, h => by simp [subL] at h; subst h; simp
  | c :: r, x, h => by
    have ih := sub_mem r
    obtain ⟨y, ys, e⟩ := subL_cons r
    unfold subL at h
    by_cases hc : c = 45
    · rw [if_pos hc] at h
      rcases List.mem_cons.1 h with rfl | h
      · simp
      · have := ih x h; simp only [List.length_cons]; exact ⟨this.1, by omega⟩
    · rw [if_neg hc, e] at h
      rcases List.mem_cons.1 h with rfl | h
      · have := ih y (by rw [e]; simp)
        refine ⟨?_, by simp only [List.length_cons]; omega⟩
        intro hm
        rcases List.mem_cons.1 hm with q | q
        · exact hc q.symm
        · exact this.1 q
      · have := ih x (by rw [e]; simp [h]); simp only [List.length_cons]; exact ⟨this.1, by omega⟩
theorem sub_count : ∀ l : List UInt8, (subL l).length ≤ l.length + 1
  | [] => by simp [subL]
  | c :: r => by
    have ih := sub_count r
    unfold subL
    split
    · simp only [List.length_cons]; omega
    · split
      · simp
      · rename_i x xs e; rw [e] at ih; simp only [List.length_cons] at ih ⊢; omega
def lettI (b : Int) : Bool := decide (97 ≤ b ∧ b ≤ 122) || decide (65 ≤ b ∧ b ≤ 90)
def subOk (first : Bool) (x : List UInt8) : Bool := decide (1 ≤ x.length ∧ x.length ≤ 8) && x.all fun c => lettI c.toNat || (!first && digitI c.toNat)
def subsOk : List (List UInt8) → Bool
  | [] => true
  | x :: xs => subOk true x && xs.all (subOk false)
def tagL (l : List UInt8) : Bool := subsOk (subL l)
def rangeT (l : List UInt8) : Bool := decide (l = [42]) || tagL l
def prefS : List (List UInt8) → List (List UInt8) → Bool
  | [], _ => true
  | _ :: _, [] => false
  | x :: xs, y :: ys => foldL x y && prefS xs ys
def matchT (r t : List UInt8) : Int :=
  if (rangeT r && tagL t) = false then -1
  else if r = [42] then 0
  else if prefS (subL r) (subL t) = true then ((subL r).length : Int) else -1
end
section
def xgzL : List UInt8 := [120, 45, 103, 122, 105, 112]
def gzL : List UInt8 := [103, 122, 105, 112]
def xcoL : List UInt8 := [120, 45, 99, 111, 109, 112, 114, 101, 115, 115]
def coL : List UInt8 := [99, 111, 109, 112, 114, 101, 115, 115]
def canL (k : Int) (s : List UInt8) : List UInt8 :=
  if k = 4 ∧ lowL s = xgzL then gzL else if k = 4 ∧ lowL s = xcoL then coL else lowL s
def matchC (k : Int) (r v : List UInt8) : Int := if r = [42] then 0 else if canL k r = canL k v then 1 else -1
theorem matchC_star (k : Int) (v : List UInt8) : matchC k [42] v = 0 := by unfold matchC; rw [if_pos rfl]
theorem matchC_not {k : Int} {r v : List UInt8} (h : r ≠ [42]) : matchC k r v = if canL k r = canL k v then 1 else -1 := by unfold matchC; rw [if_neg h]
end
section
/-- digits behind the point, by their weights -/
def qvD : Int → Int → List UInt8 → Option Int
  | q, _, [] => some q
  | q, w, c :: r => if digitI c.toNat = true then qvD (q + ((c.toNat : Int) - 48) * w) (w / 10) r else none
def qvEnd (q : Option Int) : Option Int := match q with
  | some v => if 1000 < v then none else some v
  | none => none
def qvL : List UInt8 → Option Int
  | [] => none
  | a :: r =>
    if 5 < r.length + 1 ∨ ¬ (a = 48 ∨ a = 49) then none
    else match r with
      | [] => qvEnd (some (((a.toNat : Int) - 48) * 1000))
      | p :: ds => if p ≠ 46 then none else qvEnd (qvD (((a.toNat : Int) - 48) * 1000) 100 ds)
def qvV (o : Option Int) : Int × Bool := match o with
  | some v => (v, true)
  | none => (0, false)
/-- three digits, without the zeros at the end -/
def digC (n : Nat) : UInt8 := UInt8.ofNat (48 + n)
def threeL (n : Nat) : List UInt8 := [digC (n / 100 % 10), digC (n / 10 % 10), digC (n % 10)]
def stripF : Nat → List UInt8 → List UInt8
  | 0, l => l
  | f + 1, l => if l.getLast? = some 48 then stripF f l.dropLast else l
def fmtQ (q : Int) : List UInt8 :=
  if q < 0 ∨ 1000 < q then [] else if q = 0 then [48] else if q = 1000 then [49] else 48 :: 46 :: stripF 3 (threeL q.toNat)
theorem qv_none (q : Int) (h : q < 0 ∨ 1000 < q) : fmtQ q = [] := by unfold fmtQ; rw [if_pos h]
/-- the digits of 1000 + q -/
theorem dec_four (q : Int) (h0 : 0 ≤ q) (h1 : q < 1000) : decL (1000 + q) = 49 :: threeL q.toNat := by
  have key : ∀ n : Fin 1000, decL (1000 + (n.1 : Int)) = 49 :: threeL n.1 := by decide +kernel
  have := key ⟨q.toNat, by omega⟩
  simp only at this
  rwa [show ((q.toNat : Nat) : Int) = q from by omega] at this
theorem qv_more (a p : UInt8) (ds : List UInt8) : qvL (a :: p :: ds) = if ds.length ≤ 3 ∧ (a = 48 ∨ a = 49) ∧ p = 46 then qvEnd (qvD (((a.toNat : Int) - 48) * 1000) 100 ds) else none := by
  show (if 5 < (p :: ds).length + 1 ∨ ¬ (a = 48 ∨ a = 49) then none else if p ≠ 46 then none else qvEnd (qvD (((a.toNat : Int) - 48) * 1000) 100 ds)) = _
  rw [List.length_cons]
  by_cases h1 : ds.length ≤ 3
  · by_cases h2 : a = 48 ∨ a = 49
    · have hn : ¬ (5 < ds.length + 1 + 1 ∨ ¬ (a = 48 ∨ a = 49)) := fun h => h.elim (fun q => by omega) (fun q => q h2)
      rw [if_neg hn]
      by_cases h3 : p = 46
      · rw [if_neg (fun q => q h3), if_pos ⟨h1, h2, h3⟩]
      · rw [if_pos h3, if_neg (fun q => h3 q.2.2)]
    · rw [if_pos (Or.inr h2), if_neg (fun q => h2 q.2.1)]
  · rw [if_pos (Or.inl (by omega)), if_neg (fun q => h1 q.1)]
/-- bounds of what has been read -/
theorem qvD_cons (q w : Int) (c : UInt8) (r : List UInt8) : qvD q w (c :: r) = if digitI c.toNat = true then qvD (q + ((c.toNat : Int) - 48) * w) (w / 10) r else none := rfl
end
end Go.Proofs.YtnpllgjkbpnimaaGreatDoor.Asc
