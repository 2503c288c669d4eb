/- Merged texts: AscSpec AscSpec2 StaSpec AscSpec3 FieSpec TarSpec ChkSpec. -/
import Derived.Laws.Strings
import Derived.Lib.IndexLaws
set_option linter.unusedVariables false
set_option linter.unusedSimpArgs false
set_option maxRecDepth 100000
namespace Go.Proofs.YtjabcfabenobiaaGreat.Asc
section
def letterI (b : Int) : Bool := decide (97 ≤ b ∧ b ≤ 122) || decide (65 ≤ b ∧ b ≤ 90)
def digitI (b : Int) : Bool := decide (48 ≤ b ∧ b ≤ 57)
def signI (b : Int) : Bool := b == 33 || b == 35 || b == 36 || b == 37 || b == 38 || b == 39 || b == 42 || b == 43 || b == 45 || b == 46 || b == 94 || b == 95 || b == 96 || b == 124 || b == 126
def signL : List Int := [33, 35, 36, 37, 38, 39, 42, 43, 45, 46, 94, 95, 96, 124, 126]
def tokI (b : Int) : Bool := signI b || letterI b || digitI b
theorem sign_at : ∀ k : Fin 15, ((⟨#[33, 35, 36, 37, 38, 39, 42, 43, 45, 46, 94, 95, 96, 124, 126]⟩ : ByteArray).data[k.1]).toNat = signL.getD k.1 0 := by decide
theorem sign_yes {b : Int} {k : Nat} (hk : k < 15) (h : ((((⟨#[33, 35, 36, 37, 38, 39, 42, 43, 45, 46, 94, 95, 96, 124, 126]⟩ : ByteArray)[k]'hk).toNat : Int) == b) = true) : tokI b = true := by
  have e : ((((⟨#[33, 35, 36, 37, 38, 39, 42, 43, 45, 46, 94, 95, 96, 124, 126]⟩ : ByteArray)[k]'hk).toNat : Int)) = signL.getD k 0 := sign_at ⟨k, hk⟩
  rw [e] at h
  have h' : signL.getD k 0 = b := by simpa using h
  have hs : ∀ k : Fin 15, signI (signL.getD k.1 0) = true := by decide
  have := hs ⟨k, hk⟩
  simp only [h'] at this
  simp [tokI, this]
theorem sign_more {b : Int} {k : Nat} (hno : ∀ j < k, signL.getD j 0 ≠ b) (hk : k < 15) (h : ((((⟨#[33, 35, 36, 37, 38, 39, 42, 43, 45, 46, 94, 95, 96, 124, 126]⟩ : ByteArray)[k]'hk).toNat : Int) == b) = false) : ∀ j < k + 1, signL.getD j 0 ≠ b := by
  have e : ((((⟨#[33, 35, 36, 37, 38, 39, 42, 43, 45, 46, 94, 95, 96, 124, 126]⟩ : ByteArray)[k]'hk).toNat : Int)) = signL.getD k 0 := sign_at ⟨k, hk⟩
  rw [e] at h
  have h' : ¬ signL.getD k 0 = b := by simpa using h
  intro j hj
  rcases Nat.lt_succ_iff_lt_or_eq.mp hj with h1 | rfl
  · exact hno j h1
  · exact h'
theorem sign_no {b : Int} {k : Nat} (hno : ∀ j < k, signL.getD j 0 ≠ b) (hk : 15 ≤ k) (hl : (letterI b || digitI b) = false) : tokI b = false := by
  have h : signI b = false := by
    have a := fun j (hj : j < 15) => hno j (by omega)
    have a0 := a 0 (by omega); have a1 := a 1 (by omega); have a2 := a 2 (by omega); have a3 := a 3 (by omega); have a4 := a 4 (by omega)
    have a5 := a 5 (by omega); have a6 := a 6 (by omega); have a7 := a 7 (by omega); have a8 := a 8 (by omega); have a9 := a 9 (by omega)
    have a10 := a 10 (by omega); have a11 := a 11 (by omega); have a12 := a 12 (by omega); have a13 := a 13 (by omega); have a14 := a 14 (by omega)
    simp [signL] at a0 a1 a2 a3 a4 a5 a6 a7 a8 a9 a10 a11 a12 a13 a14
    simp [signI]
    omega
  simp only [tokI, h, Bool.false_or]; exact hl
def textI (b : Int) : Bool := b == 9 || decide (32 ≤ b ∧ b ≤ 126) || decide (128 ≤ b)
def blankI (b : Int) : Bool := b == 32 || b == 9
def lowI (b : Int) : Int := if 65 ≤ b ∧ b ≤ 90 then b + 32 else b
/-- every byte of the list has the property -/
def allI (p : Int → Bool) (l : List UInt8) : Bool := l.all fun c => p c.toNat
def tokL (l : List UInt8) : Bool := !l.isEmpty && allI tokI l
def textL (l : List UInt8) : Bool := allI textI l
def lowL (l : List UInt8) : List UInt8 := l.map fun c => UInt8.ofNat (lowI c.toNat).toNat
theorem allI_snoc (p : Int → Bool) (l : List UInt8) (c : UInt8) : allI p (l ++ [c]) = (allI p l && p c.toNat) := by simp [allI]
theorem take_snoc (s : ByteArray) (k : Nat) (h : k < s.size) : s.data.toList.take (k + 1) = s.data.toList.take k ++ [s[k]] := by
  rw [List.take_succ_eq_append_getElem (by simpa using h)]; rfl
theorem all_more {p : Int → Bool} {s : ByteArray} {k : Nat} (h : allI p (s.data.toList.take k) = true) (hk : k < s.size) (hp : p (s[k].toNat) = true) : allI p (s.data.toList.take (k + 1)) = true := by
  rw [take_snoc s k hk, allI_snoc, h, hp]; rfl
theorem all_not {p : Int → Bool} {s : ByteArray} {k : Nat} (hk : k < s.size) (hp : p (s[k].toNat) = false) : allI p s.data.toList = false := by
  rw [← Bool.not_eq_true]; intro h
  have := List.all_eq_true.mp h s[k] (by exact List.getElem_mem (l := s.data.toList) (by simpa using hk))
  rw [hp] at this; cases this
theorem all_end {p : Int → Bool} {s : ByteArray} {k : Nat} (h : allI p (s.data.toList.take k) = true) (hk : s.size ≤ k) : allI p s.data.toList = true := by
  rwa [List.take_of_length_le (by simpa using hk)] at h
/-- the inside of a quoted string, its backslashes resolved -/
def unescL : List UInt8 → Option (List UInt8)
  | [] => some []
  | [c] => if c = 34 ∨ c = 92 then none else some [c]
  | c :: d :: r => if c = 34 then none else if c = 92 then (unescL r).map (d :: ·) else (unescL (d :: r)).map (c :: ·)
theorem unescL_e : unescL [92] = none := by simp [unescL]
theorem drop_cons (s : ByteArray) (k : Nat) (h : k < s.size) : s.data.toList.drop k = s[k] :: s.data.toList.drop (k + 1) := by
  rw [List.drop_eq_getElem_cons (by simpa using h)]; rfl
/-- what has been read so far is acc, what is left is the list from k on -/
def UnAt (l : List UInt8) (k : Nat) (acc : List UInt8) : Prop := acc.length ≤ k ∧ unescL l = (unescL (l.drop k)).map (acc ++ ·)
theorem UnAt.start (l : List UInt8) : UnAt l 0 [] := ⟨by simp, by simp⟩
theorem UnAt.fin {l : List UInt8} {k : Nat} {acc : List UInt8} (h : UnAt l k acc) (hk : l.length ≤ k) : unescL l = some acc := by
  rw [h.2, List.drop_of_length_le hk]; simp [unescL]
theorem byte_eq {c : UInt8} {n : Nat} (h : ((c.toNat : Int) == (n : Int)) = true) (hn : n < 256) : c = UInt8.ofNat n := by
  have : c.toNat = n := by have := eq_of_beq h; omega
  rw [← this]; simp
theorem UnAt.last {s : ByteArray} {k : Nat} {acc : List UInt8} (h : UnAt s.data.toList k acc) (hk : k < s.size) (hc : ((s[k].toNat : Int) == 92) = true) (he : s.size ≤ k + 1) : unescL s.data.toList = none := by
  rw [h.2, drop_cons s k hk, byte_eq (n := 92) hc (by omega), List.drop_of_length_le (by simpa using he)]; show Option.map _ (unescL [92]) = none; rw [unescL_e]; rfl
theorem getD_at (s : ByteArray) (k : Nat) (h : k < s.size) : s.data.toList.getD k 0 = s[k] := by
  rw [List.getD_eq_getElem?_getD, List.getElem?_eq_getElem (by simpa using h)]; rfl
/-- the last decimal digit of m, as a byte -/
def digB (m : Nat) : UInt8 := UInt8.ofNat (48 + m % 10)
/-- the decimal digits of m ahead of acc, at most f of them, at least one -/
def decF : Nat → Nat → List UInt8 → List UInt8
  | 0, _, acc => acc
  | f + 1, m, acc => if m / 10 = 0 then digB m :: acc else decF f (m / 10) (digB m :: acc)
def decL (n : Int) : List UInt8 := if n < 0 then 45 :: decF 20 n.natAbs [] else decF 20 n.natAbs []
/-- the digits acc have been written, m is left of N -/
def DecAt (N m : Nat) (acc : List UInt8) : Prop :=
  decF (20 - acc.length) m acc = decF 20 N [] ∧ m * 10 ^ acc.length ≤ 9223372036854775808 ∧ (acc.length = 0 ∨ 1 ≤ m)
theorem DecAt.start {N : Nat} (h : N ≤ 9223372036854775808) : DecAt N N [] := ⟨rfl, by simpa using h, .inl rfl⟩
theorem DecAt.len {N m : Nat} {acc : List UInt8} (h : DecAt N m acc) : acc.length ≤ 18 := by
  rcases h.2.2 with h0 | h1
  · omega
  · rcases Nat.lt_or_ge 18 acc.length with hl | hl
    · have a1 : 10 ^ 19 ≤ 10 ^ acc.length := Nat.pow_le_pow_right (by omega) hl
      have a2 : 10 ^ acc.length ≤ m * 10 ^ acc.length := Nat.le_mul_of_pos_left _ h1
      have a3 := h.2.1
      omega
    · exact hl
theorem DecAt.step {N m : Nat} {acc : List UInt8} (h : DecAt N m acc) (hm : ¬ m / 10 = 0) : DecAt N (m / 10) (digB m :: acc) := by
  have hl := h.len
  refine ⟨?_, ?_, .inr (by omega)⟩
  · rw [← h.1]
    obtain ⟨f, hf⟩ : ∃ f, 20 - acc.length = f + 1 := ⟨19 - acc.length, by omega⟩
    have hf' : 20 - (digB m :: acc).length = f := by simp; omega
    rw [hf', hf]; simp only [decF]; rw [if_neg hm]
  · have h1 : m / 10 * 10 ^ (acc.length + 1) = (m / 10 * 10) * 10 ^ acc.length := by rw [Nat.pow_succ]; rw [Nat.mul_assoc, Nat.mul_comm (10 ^ acc.length) 10, ← Nat.mul_assoc]
    have h2 : m / 10 * 10 ≤ m := by omega
    have h3 : (m / 10 * 10) * 10 ^ acc.length ≤ m * 10 ^ acc.length := Nat.mul_le_mul_right _ h2
    have h4 := h.2.1
    rw [List.length_cons, h1]; omega
theorem DecAt.fin {N m : Nat} {acc : List UInt8} (h : DecAt N m acc) (hm : m / 10 = 0) : decF 20 N [] = digB m :: acc := by
  have hl := h.len
  rw [← h.1]
  obtain ⟨f, hf⟩ : ∃ f, 20 - acc.length = f + 1 := ⟨19 - acc.length, by omega⟩
  rw [hf]; simp only [decF]; rw [if_pos hm]
theorem dig_toNat (m : Nat) : ((digB m).toNat : Int) = 48 + (m : Int) % 10 := by
  unfold digB; rw [UInt8.toNat_ofNat']; omega
/-- what stands in the buffer: p zeros, then acc -/
def zbuf (p : Nat) (acc : List UInt8) : List UInt8 := List.replicate p 0 ++ acc
theorem zbuf_set {p : Nat} {acc : List UInt8} (c : UInt8) (hp : 1 ≤ p) : (zbuf p acc).set (p - 1) c = zbuf (p - 1) (c :: acc) := by
  obtain ⟨q, rfl⟩ : ∃ q, p = q + 1 := ⟨p - 1, by omega⟩
  unfold zbuf
  rw [Nat.add_sub_cancel, List.replicate_succ', List.append_assoc, List.set_append_right _ _ (by simp), List.length_replicate, Nat.sub_self]
  rfl
end
section
def foldL (a b : List UInt8) : Bool := decide (lowL a = lowL b)
def lowB (c : UInt8) : UInt8 := UInt8.ofNat (lowI c.toNat).toNat
theorem lowL_map (l : List UInt8) : lowL l = l.map lowB := rfl
theorem lowB_inj {c d : UInt8} (h : lowI c.toNat = lowI d.toNat) : lowB c = lowB d := by unfold lowB; rw [h]
theorem lowI_of {c d : UInt8} (h : lowB c = lowB d) : lowI c.toNat = lowI d.toNat := by
  have hb : ∀ x : UInt8, ((lowB x).toNat : Int) = lowI x.toNat := fun x => by
    have := x.toNat_lt
    unfold lowB; rw [UInt8.toNat_ofNat']
    unfold lowI; split <;> omega
  rw [← hb, ← hb, h]
theorem fold_len {a b : ByteArray} (h : ¬ a.size = b.size) : foldL a.data.toList b.data.toList = false := by
  unfold foldL; rw [decide_eq_false]; intro e
  have := congrArg List.length e
  simp [lowL] at this; exact h this
theorem fold_more {a b : ByteArray} {k : Nat} (h : lowL (a.data.toList.take k) = lowL (b.data.toList.take k)) (ha : k < a.size) (hb : k < b.size) (hc : lowI a[k].toNat = lowI b[k].toNat) : lowL (a.data.toList.take (k + 1)) = lowL (b.data.toList.take (k + 1)) := by
  rw [take_snoc a k ha, take_snoc b k hb]
  simp only [lowL_map] at h ⊢
  rw [List.map_append, List.map_append, h, List.map_cons, List.map_cons, lowB_inj hc]
theorem fold_not {a b : ByteArray} {k : Nat} (ha : k < a.size) (hb : k < b.size) (hc : ¬ lowI a[k].toNat = lowI b[k].toNat) : foldL a.data.toList b.data.toList = false := by
  unfold foldL; rw [decide_eq_false]; intro e
  have h1 := congrArg (fun l : List UInt8 => l[k]?) e
  rw [lowL_map, lowL_map] at h1
  simp only [List.getElem?_map] at h1
  rw [List.getElem?_eq_getElem (by simpa using ha), List.getElem?_eq_getElem (by simpa using hb)] at h1
  simp only [Option.map_some, Option.some.injEq] at h1
  exact hc (lowI_of h1)
theorem fold_end {a b : ByteArray} {k : Nat} (h : lowL (a.data.toList.take k) = lowL (b.data.toList.take k)) (ha : a.size ≤ k) (hb : b.size ≤ k) : foldL a.data.toList b.data.toList = true := by
  rw [List.take_of_length_le (by simpa using ha), List.take_of_length_le (by simpa using hb)] at h
  unfold foldL; rw [decide_eq_true h]
def satI (v d : Int) : Int := if v * 10 + d > 2147483647 then 2147483647 else v * 10 + d
def numF (l : List UInt8) : Int := l.foldl (fun v c => satI v ((c.toNat : Int) - 48)) 0
def numL (l : List UInt8) : Option Int := if allI digitI l = true ∧ l ≠ [] then some (numF l) else none
theorem digitI_bd {b : Int} (h : digitI b = true) : 48 ≤ b ∧ b ≤ 57 := by simpa [digitI] using h
theorem satI_bd {v d : Int} (h0 : 0 ≤ v) (h1 : 0 ≤ d) : 0 ≤ satI v d ∧ satI v d ≤ 2147483647 := by unfold satI; split <;> omega
theorem numF_snoc (l : List UInt8) (c : UInt8) : numF (l ++ [c]) = satI (numF l) ((c.toNat : Int) - 48) := by simp [numF]
theorem numF_more {s : ByteArray} {k : Nat} (hk : k < s.size) : numF (s.data.toList.take (k + 1)) = satI (numF (s.data.toList.take k)) ((s[k].toNat : Int) - 48) := by
  rw [take_snoc s k hk, numF_snoc]
theorem num_not {s : ByteArray} {k : Nat} (hk : k < s.size) (hp : digitI (s[k].toNat) = false) : numL s.data.toList = none := by
  unfold numL; rw [if_neg]; rintro ⟨h, _⟩; rw [all_not hk hp] at h; cases h
def numV : Option Int → Int × Bool
  | none => (0, false)
  | some n => (n, true)
theorem num_end {s : ByteArray} {k : Nat} (h : allI digitI (s.data.toList.take k) = true) (hk : s.size ≤ k) : numV (numL s.data.toList) = (numF (s.data.toList.take k), !s.toList.isEmpty) := by
  have h1 := all_end h hk
  rw [List.take_of_length_le (by simpa using hk), show s.toList = s.data.toList from Go.ByteArray.toList_eq s]
  unfold numL
  rcases hl : s.data.toList with _ | ⟨c, r⟩
  · simp [numV, numF]
  · rw [hl] at h1
    rw [if_pos ⟨h1, by simp⟩]; rfl
def blankB (c : UInt8) : Bool := blankI c.toNat
def trimL (l : List UInt8) : List UInt8 := ((l.dropWhile blankB).reverse.dropWhile blankB).reverse
theorem dropW (a m : List UInt8) (ha : ∀ c ∈ a, blankB c = true) (hm : ∀ c r, m = c :: r → blankB c = false) : (a ++ m).dropWhile blankB = m := by
  induction a with
  | nil =>
    rcases m with _ | ⟨c, r⟩
    · rfl
    · simp [hm c r rfl]
  | cons c a ih =>
    simp only [List.cons_append, List.dropWhile_cons, ha c (by simp)]
    exact ih fun d hd => ha d (by simp [hd])
theorem trim_char (a m b : List UInt8) (ha : ∀ c ∈ a, blankB c = true) (hb : ∀ c ∈ b, blankB c = true) (h1 : ∀ c r, m = c :: r → blankB c = false) (h2 : ∀ c r, m = r ++ [c] → blankB c = false) : trimL (a ++ (m ++ b)) = m := by
  unfold trimL
  rcases hm : m with _ | ⟨c, r⟩
  · have : (a ++ ([] ++ b)).dropWhile blankB = [] := by
      have := dropW (a ++ b) [] (by intro c hc; rcases List.mem_append.mp hc with h | h; exact ha c h; exact hb c h) (by intro c r h; cases h)
      simpa using this
    rw [this]; rfl
  · rw [dropW a _ ha (by intro d q h; rw [List.cons_append] at h; injection h with e _; exact e ▸ h1 c r hm)]
    rw [List.reverse_append, dropW b.reverse _ (by intro d hd; exact hb d (List.mem_reverse.mp hd)) ?_, List.reverse_reverse]
    intro d q h
    have e2 : c :: r = q.reverse ++ [d] := by
      have := congrArg List.reverse h
      simpa using this
    exact h2 d q.reverse (hm.trans e2)
/-- the bounds of what is left: start and end -/
def TrimAt (l : List UInt8) (k e : Nat) : Prop :=
  k ≤ e ∧ e ≤ l.length ∧ (∀ j, j < k → blankB (l.getD j 0) = true) ∧ (∀ j, e ≤ j → j < l.length → blankB (l.getD j 0) = true) ∧ (k < l.length → blankB (l.getD k 0) = false) ∧ (k < e → blankB (l.getD (e - 1) 0) = false)
theorem ex_start (l : List UInt8) : ∀ m k, l.length = k + m → (∀ j, j < k → blankB (l.getD j 0) = true) → ∃ k', k' ≤ l.length ∧ (∀ j, j < k' → blankB (l.getD j 0) = true) ∧ (k' < l.length → blankB (l.getD k' 0) = false)
  | 0, k, h, hk => ⟨k, by omega, hk, by omega⟩
  | m + 1, k, h, hk => by
    rcases hb : blankB (l.getD k 0) with _ | _
    · exact ⟨k, by omega, hk, fun _ => hb⟩
    · exact ex_start l m (k + 1) (by omega) fun j hj => by
        rcases Nat.lt_succ_iff_lt_or_eq.mp hj with h1 | rfl
        · exact hk j h1
        · exact hb
theorem ex_end (l : List UInt8) (k : Nat) : ∀ m e, e = k + m → e ≤ l.length → (∀ j, e ≤ j → j < l.length → blankB (l.getD j 0) = true) → ∃ e', k ≤ e' ∧ e' ≤ l.length ∧ (∀ j, e' ≤ j → j < l.length → blankB (l.getD j 0) = true) ∧ (k < e' → blankB (l.getD (e' - 1) 0) = false)
  | 0, e, h, he, hk => ⟨e, by omega, he, hk, by omega⟩
  | m + 1, e, h, he, hk => by
    rcases hb : blankB (l.getD (e - 1) 0) with _ | _
    · exact ⟨e, by omega, he, hk, fun _ => hb⟩
    · exact ex_end l k m (e - 1) (by omega) (by omega) fun j hj hl => by
        by_cases e' : j = e - 1
        · subst e'; exact hb
        · exact hk j (by omega) hl
theorem ex_trim (l : List UInt8) : ∃ k e, TrimAt l k e := by
  obtain ⟨k, h1, h2, h3⟩ := ex_start l l.length 0 (by omega) (by intro j hj; omega)
  obtain ⟨e, h4, h5, h6, h7⟩ := ex_end l k (l.length - k) l.length (by omega) (Nat.le_refl _) (by intro j hj hl; omega)
  exact ⟨k, e, h4, h5, h2, h6, h3, h7⟩
theorem getD_mem {l : List UInt8} {c : UInt8} (h : c ∈ l) : ∃ j, j < l.length ∧ l.getD j 0 = c := by
  obtain ⟨j, hj, e⟩ := List.getElem_of_mem h
  exact ⟨j, hj, by simp [List.getD_eq_getElem?_getD, hj, e]⟩
theorem trim_at {l : List UInt8} {k e : Nat} (h : TrimAt l k e) : trimL l = (l.take e).drop k := by
  obtain ⟨h1, h2, h3, h4, h5, h6⟩ := h
  have hl : l = l.take k ++ ((l.take e).drop k ++ l.drop e) := by
    have e1 : (l.take e).take k = l.take k := by rw [List.take_take, Nat.min_eq_left h1]
    rw [← List.append_assoc]
    conv => lhs; rw [← List.take_append_drop e l, ← List.take_append_drop k (l.take e), e1]
  have hm : ∀ j, j < ((l.take e).drop k).length → ((l.take e).drop k).getD j 0 = l.getD (k + j) 0 := by
    intro j hj
    simp only [List.length_drop, List.length_take] at hj
    simp only [List.getD_eq_getElem?_getD, List.getElem?_drop]
    rw [List.getElem?_take_of_lt (by omega)]
  have hlen : ((l.take e).drop k).length = e - k := by simp only [List.length_drop, List.length_take]; omega
  conv => lhs; rw [hl]
  refine trim_char _ _ _ ?_ ?_ ?_ ?_
  · intro c hc
    obtain ⟨j, hj, rfl⟩ := getD_mem hc
    rw [List.length_take] at hj
    have := h3 j (by omega)
    simpa [List.getD_eq_getElem?_getD, List.getElem?_take_of_lt (show j < k by omega)] using this
  · intro c hc
    obtain ⟨j, hj, rfl⟩ := getD_mem hc
    rw [List.length_drop] at hj
    have := h4 (e + j) (by omega) (by omega)
    simpa [List.getD_eq_getElem?_getD, List.getElem?_drop] using this
  · intro c r hcr
    have := hm 0 (by rw [hcr]; simp)
    rw [hcr] at this
    have e2 : c = l.getD k 0 := by simpa using this
    rw [e2]; refine h5 ?_
    have : 0 < e - k := by rw [← hlen, hcr]; simp
    omega
  · intro c r hcr
    have hr : e - k = r.length + 1 := by rw [← hlen, hcr]; simp
    have := hm r.length (by rw [hcr]; simp)
    rw [hcr] at this
    have e2 : c = l.getD (k + r.length) 0 := by simpa [List.getD_eq_getElem?_getD] using this
    rw [e2, show k + r.length = e - 1 by omega]; exact h6 (by omega)
end
section
/-- a string out of a list of bytes, as a word that no rule opens -/
def bs (l : List UInt8) : ByteArray := ⟨l.toArray⟩
theorem bs_toList (l : List UInt8) : (bs l).data.toList = l := rfl
theorem bs_size (l : List UInt8) : (bs l).size = l.length := rfl
theorem bs_of (s : ByteArray) : s = bs s.data.toList := rfl
theorem toList_bs (l : List UInt8) : (bs l).toList = l := by rw [ByteArray.toList_eq]; rfl
theorem toList_data (s : ByteArray) : s.toList = s.data.toList := ByteArray.toList_eq s
theorem ext_bs (s : ByteArray) (a b : Nat) : s.extract a b = bs ((s.data.toList.take b).drop a) := by
  apply ByteArray.ext
  rw [ByteArray.data_extract]
  apply Array.toList_inj.mp
  rw [Array.toList_extract, List.extract_eq_take_drop, List.drop_take]
  rfl
/-- the index of the first c from place k on, or -1 -/
def idxF (l : List UInt8) (c : UInt8) (k : Nat) : Int := if Lib.indexByte (l.drop k) c = -1 then -1 else k + Lib.indexByte (l.drop k) c
theorem idxF_hit {l : List UInt8} {c : UInt8} {k : Nat} (h : k < l.length) (hc : l[k] = c) : idxF l c k = k := by
  unfold idxF; rw [List.drop_eq_getElem_cons h, hc]; simp [Lib.indexByte]
theorem idxF_miss {l : List UInt8} {c : UInt8} {k : Nat} (h : k < l.length) (hc : l[k] ≠ c) : idxF l c k = idxF l c (k + 1) := by
  unfold idxF; rw [List.drop_eq_getElem_cons h]
  have hg := Lib.indexByte_ge (l.drop (k + 1)) c
  have : (l[k] == c) = false := by simpa using hc
  simp only [Lib.indexByte, this]
  by_cases e : Lib.indexByte (l.drop (k + 1)) c = -1
  · simp [e]
  · have e2 : (Lib.indexByte (l.drop (k + 1)) c == -1) = false := by simpa using e
    simp only [e2, if_neg e, Bool.false_eq_true, if_false]
    rw [if_neg (by omega)]; push_cast; omega
theorem idxF_end {l : List UInt8} {c : UInt8} {k : Nat} (h : l.length ≤ k) : idxF l c k = -1 := by
  unfold idxF; rw [List.drop_of_length_le h]; simp [Lib.indexByte]
theorem idxF_none {l : List UInt8} {c : UInt8} {k : Nat} (h : idxF l c k < 0) : Lib.indexByte (l.drop k) c = -1 := by
  unfold idxF at h
  have hg := Lib.indexByte_ge (l.drop k) c
  by_cases e : Lib.indexByte (l.drop k) c = -1
  · exact e
  · rw [if_neg e] at h; omega
theorem idxF_some {l : List UInt8} {c : UInt8} {k : Nat} (h : ¬ idxF l c k < 0) : ∃ o : Nat, Lib.indexByte (l.drop k) c = o ∧ idxF l c k = ((k + o : Nat) : Int) ∧ k + o < l.length := by
  unfold idxF at h ⊢
  have hg := Lib.indexByte_ge (l.drop k) c
  by_cases e : Lib.indexByte (l.drop k) c = -1
  · rw [if_pos e] at h; omega
  · obtain ⟨o, ho⟩ : ∃ o : Nat, Lib.indexByte (l.drop k) c = o := ⟨(Lib.indexByte (l.drop k) c).toNat, by omega⟩
    refine ⟨o, ho, by rw [if_neg e, ho]; push_cast; rfl, ?_⟩
    have := (Lib.indexByte_some ho).1
    have h2 := (List.getElem?_eq_some_iff.mp this).1
    rw [List.length_drop] at h2; omega
/-- before the first c, behind it, and whether there is one -/
def cut1 (c : UInt8) (l : List UInt8) : List UInt8 := l.takeWhile (· != c)
def cut2 (c : UInt8) (l : List UInt8) : List UInt8 := (l.dropWhile (· != c)).drop 1
def cutB (c : UInt8) (l : List UInt8) : Bool := l.contains c
theorem cut_no : ∀ {l : List UInt8} {c : UInt8}, Lib.indexByte l c = -1 → cut1 c l = l ∧ cut2 c l = [] ∧ cutB c l = false
  | [], c, _ => ⟨rfl, rfl, rfl⟩
  | b :: l, c, h => by
    unfold Lib.indexByte at h
    by_cases hb : b = c
    · subst hb; simp at h
    · have hb1 : (b == c) = false := by simpa using hb
      have hb2 : (b != c) = true := by simpa using hb
      have hb3 : (c == b) = false := by simpa using fun e => hb e.symm
      simp only [hb1, Bool.false_eq_true, if_false] at h
      have hg := Lib.indexByte_ge l c
      by_cases e : Lib.indexByte l c = -1
      · have ih := cut_no e
        refine ⟨by simp only [cut1, List.takeWhile_cons, hb2, if_true]; congr 1; exact ih.1, by simp only [cut2, List.dropWhile_cons, hb2, if_true]; exact ih.2.1, by simp only [cutB, List.contains_cons, hb3, Bool.false_or]; exact ih.2.2⟩
      · have e2 : (Lib.indexByte l c == -1) = false := by simpa using e
        simp only [e2, Bool.false_eq_true, if_false] at h; omega
theorem cut_at : ∀ {l : List UInt8} {c : UInt8} {k : Nat}, Lib.indexByte l c = (k : Int) → k < l.length ∧ cut1 c l = l.take k ∧ cut2 c l = l.drop (k + 1) ∧ cutB c l = true
  | [], c, k, h => by simp [Lib.indexByte] at h
  | b :: l, c, k, h => by
    unfold Lib.indexByte at h
    by_cases hb : b = c
    · subst hb; simp at h
      have : k = 0 := by omega
      subst this; simp [cut1, cut2, cutB]
    · have hb1 : (b == c) = false := by simpa using hb
      have hb2 : (b != c) = true := by simpa using hb
      have hb3 : (c == b) = false := by simpa using fun e => hb e.symm
      simp only [hb1, Bool.false_eq_true, if_false] at h
      have hg := Lib.indexByte_ge l c
      by_cases e : Lib.indexByte l c = -1
      · simp [e] at h
      · have e2 : (Lib.indexByte l c == -1) = false := by simpa using e
        simp only [e2, Bool.false_eq_true, if_false] at h
        obtain ⟨j, rfl⟩ : ∃ j, k = j + 1 := ⟨k - 1, by omega⟩
        have ih := cut_at (l := l) (c := c) (k := j) (by push_cast at h; omega)
        refine ⟨by simpa using ih.1, by simp only [cut1, List.takeWhile_cons, hb2, if_true, List.take_succ_cons]; congr 1; exact ih.2.1, by simp only [cut2, List.dropWhile_cons, hb2, if_true, List.drop_succ_cons]; exact ih.2.2.1, by simp only [cutB, List.contains_cons, hb3, Bool.false_or]; exact ih.2.2.2⟩
/-- the shape of what was cut -/
theorem cut_join {c : UInt8} {l : List UInt8} (h : cutB c l = true) : l = cut1 c l ++ c :: cut2 c l := by
  by_cases e : Lib.indexByte l c = -1
  · rw [(cut_no e).2.2] at h; cases h
  · obtain ⟨k, hk⟩ : ∃ k : Nat, Lib.indexByte l c = k := ⟨(Lib.indexByte l c).toNat, by have := Lib.indexByte_ge l c; omega⟩
    have hc := cut_at hk
    have hh := (Lib.indexByte_some hk).1
    rw [hc.2.1, hc.2.2.1]
    have hg : l[k] = c := (List.getElem?_eq_some_iff.mp hh).2
    rw [← hg, ← List.drop_eq_getElem_cons hc.1, List.take_append_drop]
theorem cut_app {c : UInt8} {a b : List UInt8} (h : c ∉ a) : cut1 c (a ++ c :: b) = a ∧ cut2 c (a ++ c :: b) = b ∧ cutB c (a ++ c :: b) = true := by
  have ha : ∀ x ∈ a, (x != c) = true := fun x hx => by
    rw [bne_iff_ne]; intro e; subst e; exact h hx
  refine ⟨?_, ?_, by simp [cutB]⟩
  · simp only [cut1]; rw [List.takeWhile_append_of_pos ha]; simp
  · simp only [cut2]; rw [List.dropWhile_append_of_pos ha]; simp
theorem cut1_not (c : UInt8) (l : List UInt8) : c ∉ cut1 c l := by
  intro h
  have := List.all_takeWhile (l := l) (p := (· != c))
  have h2 := List.all_eq_true.mp this c h
  simp at h2
def visI (b : Int) : Bool := decide (33 ≤ b ∧ b ≤ 126)
def visL (l : List UInt8) : Bool := !l.isEmpty && allI visI l
def http5 : List UInt8 := [72, 84, 84, 80, 47]
def ver10 : List UInt8 := [72, 84, 84, 80, 47, 49, 46, 48]
def ver11 : List UInt8 := [72, 84, 84, 80, 47, 49, 46, 49]
def isVerL (l : List UInt8) : Bool := decide (l.length = 8) && (l.take 5 == http5) && digitI (l.getD 5 0).toNat && (((l.getD 6 0).toNat : Int) == 46) && digitI (l.getD 7 0).toNat
def verM (l : List UInt8) : Int := if l = ver11 then 1 else 0
def verE (l : List UInt8) : Int := if isVerL l = false then 1 else if l = ver10 ∨ l = ver11 then 0 else 3
theorem isVer_ex {l : List UInt8} (h : isVerL l = true) : ∃ a b : UInt8, l = [72, 84, 84, 80, 47, a, 46, b] ∧ digitI a.toNat = true ∧ digitI b.toNat = true := by
  simp only [isVerL, Bool.and_eq_true, decide_eq_true_eq] at h
  obtain ⟨⟨⟨⟨h1, h2⟩, h3⟩, h4⟩, h5⟩ := h
  obtain ⟨x0, x1, x2, x3, x4, x5, x6, x7, rfl⟩ : ∃ x0 x1 x2 x3 x4 x5 x6 x7, l = [x0, x1, x2, x3, x4, x5, x6, x7] := by
    match l, h1 with
    | [x0, x1, x2, x3, x4, x5, x6, x7], _ => exact ⟨x0, x1, x2, x3, x4, x5, x6, x7, rfl⟩
  simp [http5] at h2
  obtain ⟨rfl, rfl, rfl, rfl, rfl⟩ := h2
  have e6 : x6 = 46 := byte_eq (n := 46) h4 (by omega)
  subst e6
  exact ⟨x5, x7, rfl, h3, h5⟩
theorem verE_no {l : List UInt8} (h : isVerL l = false) : verE l = 1 := by unfold verE; rw [if_pos h]
theorem verE_10 : verE ver10 = 0 := by decide
theorem verE_11 : verE ver11 = 0 := by decide
theorem verM_10 : verM ver10 = 0 := by decide
theorem verM_11 : verM ver11 = 1 := by decide
theorem verE_other {l : List UInt8} (h : isVerL l = true) (h0 : l ≠ ver10) (h1 : l ≠ ver11) : verE l = 3 := by
  unfold verE; rw [if_neg (by simp [h]), if_neg (by simp [h0, h1])]
theorem verM_other {l : List UInt8} (h1 : l ≠ ver11) : verM l = 0 := by unfold verM; rw [if_neg h1]
theorem verE_ok {l : List UInt8} (h : verE l = 0) : l = ver10 ∨ l = ver11 := by
  unfold verE at h
  split at h
  · omega
  · split at h
    · assumption
    · omega
/-- method, target, minor version, error -/
def reqL (l : List UInt8) : List UInt8 × List UInt8 × Int × Int :=
  if 2000 < l.length then ([], [], 0, 4)
  else if (tokL (cut1 32 l) && visL (cut1 32 (cut2 32 l))) = false then ([], [], 0, 1)
  else if verE (cut2 32 (cut2 32 l)) ≠ 0 then ([], [], 0, verE (cut2 32 (cut2 32 l)))
  else (cut1 32 l, cut1 32 (cut2 32 l), verM (cut2 32 (cut2 32 l)), 0)
theorem req_long {l : List UInt8} (h : 2000 < l.length) : reqL l = ([], [], 0, 4) := by unfold reqL; rw [if_pos h]
theorem req_bad {l : List UInt8} (h : ¬ 2000 < l.length) (h2 : (tokL (cut1 32 l) && visL (cut1 32 (cut2 32 l))) = false) : reqL l = ([], [], 0, 1) := by
  unfold reqL; rw [if_neg h, if_pos h2]
theorem req_ver {l : List UInt8} (h : ¬ 2000 < l.length) (h1 : tokL (cut1 32 l) = true) (h2 : visL (cut1 32 (cut2 32 l)) = true) (h3 : verE (cut2 32 (cut2 32 l)) ≠ 0) : reqL l = ([], [], 0, verE (cut2 32 (cut2 32 l))) := by
  unfold reqL; rw [if_neg h, if_neg (by simp [h1, h2]), if_pos h3]
theorem req_ok {l : List UInt8} (h : ¬ 2000 < l.length) (h1 : tokL (cut1 32 l) = true) (h2 : visL (cut1 32 (cut2 32 l)) = true) (h3 : verE (cut2 32 (cut2 32 l)) = 0) : reqL l = (cut1 32 l, cut1 32 (cut2 32 l), verM (cut2 32 (cut2 32 l)), 0) := by
  unfold reqL; rw [if_neg h, if_neg (by simp [h1, h2]), if_neg (by simp [h3])]
theorem visL_nil : visL [] = false := rfl
theorem req_cut0 {l : List UInt8} (h : ¬ 2000 < l.length) (h0 : Lib.indexByte l 32 = -1) : reqL l = ([], [], 0, 1) := by
  refine req_bad h ?_
  rw [(cut_no h0).2.1]; simp [cut1, visL_nil]
theorem verE_nil : verE [] = 1 := by decide
theorem req_cut1 {l : List UInt8} (h : ¬ 2000 < l.length) (h0 : Lib.indexByte (cut2 32 l) 32 = -1) : reqL l = ([], [], 0, 1) := by
  rcases e : (tokL (cut1 32 l) && visL (cut1 32 (cut2 32 l))) with _ | _
  · exact req_bad h e
  · simp only [Bool.and_eq_true] at e
    have hv : verE (cut2 32 (cut2 32 l)) = 1 := by rw [(cut_no h0).2.1]; exact verE_nil
    rw [req_ver h e.1 e.2 (by rw [hv]; omega), hv]
/-- minor version, status, reason, error -/
def codeL (l : List UInt8) : Option Int := match numL l with | some n => if l.length = 3 ∧ 100 ≤ n ∧ n ≤ 599 then some n else none | none => none
def staL (l : List UInt8) : Int × Int × List UInt8 × Int :=
  if 2000 < l.length then (0, 0, [], 4)
  else if (cutB 32 (cut2 32 l) && (codeL (cut1 32 (cut2 32 l))).isSome && textL (cut2 32 (cut2 32 l))) = false then (0, 0, [], 1)
  else if verE (cut1 32 l) ≠ 0 then (0, 0, [], verE (cut1 32 l))
  else (verM (cut1 32 l), (codeL (cut1 32 (cut2 32 l))).getD 0, cut2 32 (cut2 32 l), 0)
theorem sta_long {l : List UInt8} (h : 2000 < l.length) : staL l = (0, 0, [], 4) := by unfold staL; rw [if_pos h]
theorem sta_bad {l : List UInt8} (h : ¬ 2000 < l.length) (h2 : (cutB 32 (cut2 32 l) && (codeL (cut1 32 (cut2 32 l))).isSome && textL (cut2 32 (cut2 32 l))) = false) : staL l = (0, 0, [], 1) := by
  unfold staL; rw [if_neg h, if_pos h2]
theorem sta_ver {l : List UInt8} (h : ¬ 2000 < l.length) (h2 : (cutB 32 (cut2 32 l) && (codeL (cut1 32 (cut2 32 l))).isSome && textL (cut2 32 (cut2 32 l))) = true) (h3 : verE (cut1 32 l) ≠ 0) : staL l = (0, 0, [], verE (cut1 32 l)) := by
  unfold staL; rw [if_neg h, if_neg (by simp [h2]), if_pos h3]
theorem sta_ok {l : List UInt8} (h : ¬ 2000 < l.length) (h2 : (cutB 32 (cut2 32 l) && (codeL (cut1 32 (cut2 32 l))).isSome && textL (cut2 32 (cut2 32 l))) = true) (h3 : verE (cut1 32 l) = 0) : staL l = (verM (cut1 32 l), (codeL (cut1 32 (cut2 32 l))).getD 0, cut2 32 (cut2 32 l), 0) := by
  unfold staL; rw [if_neg h, if_neg (by simp [h2]), if_neg (by simp [h3])]
end
section
def valF (v : Int) (l : List UInt8) : Int := l.foldl (fun v c => v * 10 + ((c.toNat : Int) - 48)) v
theorem sat_min (v d : Int) (h0 : 0 ≤ v) (h1 : 0 ≤ d) : satI (min v 2147483647) d = min (v * 10 + d) 2147483647 := by
  unfold satI; split <;> omega
theorem numF_val (l : List UInt8) (h : allI digitI l = true) : ∀ v : Int, 0 ≤ v → l.foldl (fun v c => satI v ((c.toNat : Int) - 48)) (min v 2147483647) = min (valF v l) 2147483647 := by
  induction l with
  | nil => intro v _; rfl
  | cons c l ih =>
    intro v hv
    have hc : digitI c.toNat = true ∧ allI digitI l = true := by simpa [allI] using h
    have hd := digitI_bd hc.1
    simp only [List.foldl_cons, valF]
    rw [sat_min v _ hv (by omega)]
    exact ih hc.2 _ (by omega)
theorem numF_eq (l : List UInt8) (h : allI digitI l = true) : numF l = min (valF 0 l) 2147483647 := numF_val l h 0 (Int.le_refl _)
theorem dig_digit (m : Nat) : digitI (digB m).toNat = true := by
  rw [dig_toNat]; simp [digitI]; omega
theorem decF_digits : ∀ f m acc, allI digitI acc = true → allI digitI (decF f m acc) = true
  | 0, m, acc, h => h
  | f + 1, m, acc, h => by
    have h' : allI digitI (digB m :: acc) = true := by simp only [allI, List.all_cons, dig_digit, Bool.true_and]; exact h
    unfold decF; split
    · exact h'
    · exact decF_digits f _ _ h'
theorem decF_val : ∀ f m acc, m < 10 ^ (f + 1) → valF 0 (decF (f + 1) m acc) = valF (m : Int) acc
  | 0, m, acc, h => by
    unfold decF
    rw [if_pos (by omega)]
    simp only [valF, List.foldl_cons, dig_toNat]
    congr 1; omega
  | f + 1, m, acc, h => by
    unfold decF; split
    · simp only [valF, List.foldl_cons, dig_toNat]
      congr 1; omega
    · rw [decF_val f (m / 10) _ (by rw [Nat.pow_succ] at h; omega)]
      simp only [valF, List.foldl_cons, dig_toNat]
      congr 1; omega
theorem decF_ne : ∀ f m acc, decF (f + 1) m acc ≠ []
  | 0, m, acc => by unfold decF; split <;> simp [decF]
  | f + 1, m, acc => by
    unfold decF; split
    · simp
    · exact decF_ne f _ _
theorem num_dec {n : Int} (h0 : 0 ≤ n) (h1 : n ≤ 9223372036854775807) : numL (decL n) = some (min n 2147483647) := by
  have hd : allI digitI (decL n) = true := by rw [decL, if_neg (by omega)]; exact decF_digits _ _ _ rfl
  have hv : valF 0 (decL n) = n := by
    rw [decL, if_neg (by omega), decF_val 19 n.natAbs [] (by omega)]; simp [valF]; omega
  have hne : decL n ≠ [] := by rw [decL, if_neg (by omega)]; exact decF_ne 19 _ _
  unfold numL; rw [if_pos ⟨hd, hne⟩, numF_eq _ hd, hv]
theorem trim_split (l : List UInt8) : ∃ a b, l = a ++ (trimL l ++ b) ∧ (∀ c ∈ a, blankB c = true) ∧ (∀ c ∈ b, blankB c = true) ∧ (∀ c r, trimL l = c :: r → blankB c = false) ∧ (∀ c r, trimL l = r ++ [c] → blankB c = false) := by
  obtain ⟨k, e, ht⟩ := ex_trim l
  have hT := trim_at ht
  obtain ⟨h1, h2, h3, h4, h5, h6⟩ := ht
  have hlen : (trimL l).length = e - k := by rw [hT]; simp only [List.length_drop, List.length_take]; omega
  have hm : ∀ j, j < e - k → (trimL l).getD j 0 = l.getD (k + j) 0 := by
    intro j hj
    rw [hT]
    simp only [List.getD_eq_getElem?_getD, List.getElem?_drop]
    rw [List.getElem?_take_of_lt (by omega)]
  refine ⟨l.take k, l.drop e, ?_, ?_, ?_, ?_, ?_⟩
  · have e1 : (l.take e).take k = l.take k := by rw [List.take_take, Nat.min_eq_left h1]
    rw [hT, ← List.append_assoc]
    conv => lhs; rw [← List.take_append_drop e l, ← List.take_append_drop k (l.take e), e1]
  · intro c hc
    obtain ⟨j, hj, rfl⟩ := getD_mem hc
    rw [List.length_take] at hj
    have := h3 j (by omega)
    simpa [List.getD_eq_getElem?_getD, List.getElem?_take_of_lt (show j < k by omega)] using this
  · intro c hc
    obtain ⟨j, hj, rfl⟩ := getD_mem hc
    rw [List.length_drop] at hj
    have := h4 (e + j) (by omega) (by omega)
    simpa [List.getD_eq_getElem?_getD, List.getElem?_drop] using this
  · intro c r hcr
    have hpos : 0 < e - k := by rw [← hlen, hcr]; simp
    have := hm 0 hpos
    rw [hcr] at this
    have e2 : c = l.getD k 0 := by simpa using this
    rw [e2]; exact h5 (by omega)
  · intro c r hcr
    have hr : e - k = r.length + 1 := by rw [← hlen, hcr]; simp
    have := hm r.length (by omega)
    rw [hcr] at this
    have e2 : c = l.getD (k + r.length) 0 := by simpa [List.getD_eq_getElem?_getD] using this
    rw [e2, show k + r.length = e - 1 by omega]; exact h6 (by omega)
theorem trim_around (p q l : List UInt8) (hp : ∀ c ∈ p, blankB c = true) (hq : ∀ c ∈ q, blankB c = true) : trimL (p ++ (l ++ q)) = trimL l := by
  obtain ⟨a, b, hl, ha, hb, h1, h2⟩ := trim_split l
  have e : p ++ (l ++ q) = (p ++ a) ++ (trimL l ++ (b ++ q)) := by
    conv => lhs; rw [hl]
    simp only [List.append_assoc]
  rw [e]
  exact trim_char _ _ _ (by intro c hc; rcases List.mem_append.mp hc with h | h; exact hp c h; exact ha c h) (by intro c hc; rcases List.mem_append.mp hc with h | h; exact hb c h; exact hq c h) h1 h2
theorem trim_trim (l : List UInt8) : trimL (trimL l) = trimL l := by
  obtain ⟨a, b, hl, ha, hb, h1, h2⟩ := trim_split l
  have := trim_char [] (trimL l) [] (by simp) (by simp) h1 h2
  simpa using this
end
section
/-- the length of a field's line, its line, whether it may be written -/
def lineN (n v : List UInt8) : Nat := if v = [] then n.length + 1 else n.length + 2 + v.length
def lineL (n v : List UInt8) : List UInt8 := if v = [] then n ++ [58] else n ++ [58, 32] ++ v
def wellL (n v : List UInt8) : Bool := tokL n && textL v && (trimL v == v)
def validL (n v : List UInt8) : Bool := wellL n v && decide (lineN n v ≤ 2000)
def fmtFL (n v : List UInt8) : List UInt8 := if validL n v = true then lineL n v else []
theorem lineN_eq (n v : List UInt8) : (lineL n v).length = lineN n v := by
  unfold lineL lineN; split <;> simp <;> omega
/-- name, value, error -/
def fieldL (l : List UInt8) : List UInt8 × List UInt8 × Int :=
  if 2000 < l.length then ([], [], 4)
  else if (cutB 58 l && tokL (cut1 58 l) && textL (cut2 58 l)) = false then ([], [], 1)
  else if 2000 < lineN (cut1 58 l) (trimL (cut2 58 l)) then ([], [], 4)
  else (cut1 58 l, trimL (cut2 58 l), 0)
theorem field_long {l : List UInt8} (h : 2000 < l.length) : fieldL l = ([], [], 4) := by unfold fieldL; rw [if_pos h]
theorem field_bad {l : List UInt8} (h : ¬ 2000 < l.length) (h2 : (cutB 58 l && tokL (cut1 58 l) && textL (cut2 58 l)) = false) : fieldL l = ([], [], 1) := by
  unfold fieldL; rw [if_neg h, if_pos h2]
theorem field_wide {l : List UInt8} (h : ¬ 2000 < l.length) (h2 : (cutB 58 l && tokL (cut1 58 l) && textL (cut2 58 l)) = true) (h3 : 2000 < lineN (cut1 58 l) (trimL (cut2 58 l))) : fieldL l = ([], [], 4) := by
  unfold fieldL; rw [if_neg h, if_neg (by simp [h2]), if_pos h3]
theorem field_ok {l : List UInt8} (h : ¬ 2000 < l.length) (h2 : (cutB 58 l && tokL (cut1 58 l) && textL (cut2 58 l)) = true) (h3 : ¬ 2000 < lineN (cut1 58 l) (trimL (cut2 58 l))) : fieldL l = (cut1 58 l, trimL (cut2 58 l), 0) := by
  unfold fieldL; rw [if_neg h, if_neg (by simp [h2]), if_neg h3]
theorem blank_text {c : UInt8} (h : blankB c = true) : textI c.toNat = true := by
  unfold blankB blankI at h
  unfold textI
  simp only [Bool.or_eq_true, beq_iff_eq, decide_eq_true_eq] at *
  omega
theorem text_trim (l : List UInt8) : textL (trimL l) = textL l := by
  obtain ⟨a, b, h, ha, hb, _⟩ := trim_split l
  have e : textL l = (allI textI a && (textL (trimL l) && allI textI b)) := by
    conv => lhs; rw [h]
    unfold textL allI; rw [List.all_append, List.all_append]
  have ea : allI textI a = true := List.all_eq_true.mpr fun c hc => blank_text (ha c hc)
  have eb : allI textI b = true := List.all_eq_true.mpr fun c hc => blank_text (hb c hc)
  rw [e, ea, eb]; simp
theorem trim_le (l : List UInt8) : (trimL l).length ≤ l.length := by
  obtain ⟨a, b, h, _⟩ := trim_split l
  have := congrArg List.length h
  simp at this; omega
theorem well_cut (l : List UInt8) : wellL (cut1 58 l) (trimL (cut2 58 l)) = (tokL (cut1 58 l) && textL (cut2 58 l)) := by
  unfold wellL; rw [text_trim, trim_trim]; simp
theorem cut1_short (c : UInt8) (l : List UInt8) : (cut1 c l).length ≤ l.length := by
  unfold cut1; exact List.Sublist.length_le (List.takeWhile_sublist _)
theorem cut2_short (c : UInt8) (l : List UInt8) : (cut2 c l).length ≤ l.length := by
  unfold cut2; rw [List.length_drop]
  have := List.Sublist.length_le (List.dropWhile_sublist (l := l) (· != c)); omega
theorem valid_parts {n v : List UInt8} (h : validL n v = true) : tokL n = true ∧ textL v = true ∧ trimL v = v ∧ lineN n v ≤ 2000 := by
  unfold validL wellL at h
  simp only [Bool.and_eq_true, beq_iff_eq, decide_eq_true_eq] at h
  exact ⟨h.1.1.1, h.1.1.2, h.1.2, h.2⟩
theorem colon_not {n : List UInt8} (h : tokL n = true) : (58 : UInt8) ∉ n := by
  intro hm
  unfold tokL at h
  simp only [Bool.and_eq_true] at h
  have q := List.all_eq_true.mp h.2 58 hm
  revert q; decide
theorem field_back {n v : List UInt8} (h : validL n v = true) : fieldL (lineL n v) = (n, v, 0) := by
  obtain ⟨h1, h2, h3, h4⟩ := valid_parts h
  obtain ⟨r, hr, hx, ht⟩ : ∃ r, lineL n v = n ++ 58 :: r ∧ textL r = true ∧ trimL r = v := by
    unfold lineL
    by_cases e : v = []
    · exact ⟨[], by rw [if_pos e], rfl, by rw [e]; rfl⟩
    · refine ⟨32 :: v, by rw [if_neg e]; simp, ?_, ?_⟩
      · unfold textL allI at h2 ⊢
        rw [List.all_cons, h2]; rfl
      · have := trim_around [32] [] v (by decide) (by simp)
        simp at this; rw [this, h3]
  obtain ⟨c1, c2, c3⟩ := cut_app (c := 58) (b := r) (colon_not h1)
  rw [← hr] at c1 c2 c3
  have hl := lineN_eq n v
  rw [field_ok (by omega) (by rw [c1, c2, c3, h1, hx]; rfl) (by rw [c1, c2, ht]; omega), c1, c2, ht]
end
section
def alnumI (b : Int) : Bool := letterI b || digitI b
def hexI (b : Int) : Int := if digitI b = true then b - 48 else if 97 ≤ b ∧ b ≤ 102 then b - 87 else if 65 ≤ b ∧ b ≤ 70 then b - 55 else -1
def hexB (c : UInt8) : Bool := decide (0 ≤ hexI c.toNat)
def unresI (b : Int) : Bool := alnumI b || b == 45 || b == 46 || b == 95 || b == 126
def okI (b : Int) : Bool := decide (33 ≤ b ∧ b ≤ 126) && !(b == 35)
def okB (c : UInt8) : Bool := okI c.toNat
def hexD : List UInt8 := [48, 49, 50, 51, 52, 53, 54, 55, 56, 57, 65, 66, 67, 68, 69, 70]
/-- the byte of a triplet, and what is written for it -/
def tripN (a b : UInt8) : Nat := (hexI a.toNat * 16 + hexI b.toNat).toNat
def tripL (x : Nat) : List UInt8 := if unresI x = true then [UInt8.ofNat x] else [37, hexD.getD (x / 16) 0, hexD.getD (x % 16) 0]
def normL : List UInt8 → Option (List UInt8)
  | [] => some []
  | c :: r =>
    if okB c = false then none
    else if c ≠ 37 then (normL r).map (c :: ·)
    else match r with
      | a :: b :: r2 => if (hexB a && hexB b) = true then (normL r2).map (tripL (tripN a b) ++ ·) else none
      | _ => none
theorem norm_bad {c : UInt8} {r : List UInt8} (h : okB c = false) : normL (c :: r) = none := by
  unfold normL; rw [if_pos h]
theorem hex_bd {c : UInt8} (h : hexB c = true) : 0 ≤ hexI c.toNat ∧ hexI c.toNat ≤ 15 := by
  unfold hexB at h
  have h0 : 0 ≤ hexI c.toNat := by simpa using h
  refine ⟨h0, ?_⟩
  unfold hexI at h0 ⊢
  split
  · rename_i q; have := digitI_bd q; omega
  · split
    · omega
    · split
      · omega
      · omega
end
section
def eolB (c : UInt8) : Bool := c != 13 && c != 10
/-- the next line and what follows it, or an error -/
def nextL (l : List UInt8) : Int ⊕ (List UInt8 × List UInt8) :=
  if 2000 < (l.takeWhile eolB).length then .inl 4
  else match l.dropWhile eolB with
    | [] => .inl 2
    | [c] => if c = 10 then .inl 1 else .inl 2
    | c :: d :: r => if c = 10 then .inl 1 else if d = 10 then .inr (l.takeWhile eolB, r) else .inl 1
theorem while_all {p : UInt8 → Bool} {t r : List UInt8} (h : ∀ c ∈ t, p c = true) (hr : r = [] ∨ ∃ c s, r = c :: s ∧ p c = false) : (t ++ r).takeWhile p = t ∧ (t ++ r).dropWhile p = r := by
  rcases hr with rfl | ⟨c, s, rfl, hc⟩
  · rw [List.takeWhile_append_of_pos h, List.dropWhile_append_of_pos h]; simp
  · rw [List.takeWhile_append_of_pos h, List.dropWhile_append_of_pos h, List.takeWhile_cons, List.dropWhile_cons, hc]; simp
theorem next_ok {t r : List UInt8} (h : ∀ c ∈ t, eolB c = true) (hl : t.length ≤ 2000) : nextL (t ++ 13 :: 10 :: r) = .inr (t, r) := by
  obtain ⟨h1, h2⟩ := while_all (r := 13 :: 10 :: r) h (.inr ⟨_, _, rfl, by decide⟩)
  unfold nextL
  rw [h1, h2, if_neg (by omega)]
  simp
theorem next_short {t : List UInt8} (h : ∀ c ∈ t, eolB c = true) (hl : t.length ≤ 2000) : nextL t = .inl 2 := by
  obtain ⟨h1, h2⟩ := while_all (r := []) h (.inl rfl)
  rw [List.append_nil] at h1 h2
  unfold nextL
  rw [h1, h2, if_neg (by omega)]
theorem next_cr {t : List UInt8} (h : ∀ c ∈ t, eolB c = true) (hl : t.length ≤ 2000) : nextL (t ++ [13]) = .inl 2 := by
  obtain ⟨h1, h2⟩ := while_all (r := [13]) h (.inr ⟨_, _, rfl, by decide⟩)
  unfold nextL
  rw [h1, h2, if_neg (by omega)]
  simp
theorem next_line {l t r : List UInt8} (h : nextL l = .inr (t, r)) : l = t ++ 13 :: 10 :: r ∧ t = l.takeWhile eolB ∧ t.length ≤ 2000 := by
  unfold nextL at h
  split at h
  · cases h
  · rename_i hl
    split at h
    · cases h
    · split at h <;> cases h
    · rename_i c d s hd
      split at h
      · cases h
      · rename_i hc
        split at h
        · rename_i hd10
          cases h
          have e := List.takeWhile_append_dropWhile (p := eolB) (l := l)
          have hcr : eolB c = false := by
            have := List.head?_dropWhile_not (p := eolB) (l := l)
            rw [hd] at this; simpa using this
          have hc13 : c = 13 := by
            unfold eolB at hcr
            rw [Bool.and_eq_false_iff] at hcr
            rcases hcr with q | q
            · simpa using q
            · exact absurd (by simpa using q) hc
          refine ⟨?_, rfl, by omega⟩
          rw [hd, hc13, hd10] at e
          exact e.symm
        · cases h
/-- the number of hexadecimal digits; the size that a line gives -/
def hexN (l : List UInt8) : Nat := l.foldl (fun n c => n * 16 + (hexI c.toNat).toNat) 0
def sizeOk (l : List UInt8) : Bool := decide (1 ≤ (l.takeWhile hexB).length ∧ (l.takeWhile hexB).length ≤ 8) && ((l.dropWhile hexB).isEmpty || decide ((l.dropWhile hexB).head? = some 59)) && textL (l.dropWhile hexB)
def sizeL (l : List UInt8) : Option Nat := if sizeOk l = true then some (hexN (l.takeWhile hexB)) else none
/-- one chunk: an error, the last one and what follows it, or its bytes and what follows it -/
inductive Chunk where
  | bad (e : Int)
  | last (r : List UInt8)
  | data (d r : List UInt8)
def chunkL (body l : List UInt8) : Chunk := match nextL l with
  | .inl e => .bad e
  | .inr (t, r) => match sizeL t with
    | none => .bad 1
    | some n =>
      if 100000 < n + body.length then .bad 5
      else if n = 0 then .last r
      else if r.length < n then .bad 2
      else if r.drop n = [] ∨ r.drop n = [13] then .bad 2
      else if (r.drop n).take 2 = [13, 10] then .data (r.take n) (r.drop (n + 2)) else .bad 1
def chunksF : Nat → List UInt8 → List UInt8 → Int ⊕ (List UInt8 × List UInt8)
  | 0, _, _ => .inl 0
  | f + 1, body, l => match chunkL body l with
    | .bad e => .inl e
    | .last r => .inr (body, r)
    | .data d r => chunksF f (body ++ d) r
/-- the lines behind the content -/
def trailF : Nat → Nat → List UInt8 → Int ⊕ List UInt8
  | 0, _, _ => .inl 0
  | f + 1, k, l => match nextL l with
    | .inl e => .inl e
    | .inr (t, r) => if t = [] then .inr r else if k = 64 then .inl 4 else if (fieldL t).2.2 ≠ 0 then .inl (fieldL t).2.2 else trailF f (k + 1) r
def decS (f : Nat) (body l : List UInt8) : Int ⊕ (List UInt8 × List UInt8) := match chunksF f body l with
  | .inl e => .inl e
  | .inr (b, r) => match trailF 66 0 r with
    | .inl e => .inl e
    | .inr r2 => .inr (b, r2)
/-- content, length, error -/
def decT (n : Nat) : Int ⊕ (List UInt8 × List UInt8) → List UInt8 × Int × Int
  | .inl e => ([], 0, e)
  | .inr (b, r) => (b, (n : Int) - r.length, 0)
def decodeL (l : List UInt8) : List UInt8 × Int × Int := decT l.length (decS (l.length + 1) [] l)
theorem text_eol {c : UInt8} (h : textI c.toNat = true) : eolB c = true := by
  have key : ∀ x : Fin 256, textI (x.1 : Nat) = true → eolB (UInt8.ofNat x.1) = true := by decide +kernel
  have := key ⟨c.toNat, c.toNat_lt⟩ h
  simpa using this
theorem chunks_bad {f : Nat} {body l : List UInt8} {e : Int} (h : chunkL body l = .bad e) : chunksF (f + 1) body l = .inl e := by simp only [chunksF, h]
theorem chunks_last {f : Nat} {body l r : List UInt8} (h : chunkL body l = .last r) : chunksF (f + 1) body l = .inr (body, r) := by simp only [chunksF, h]
theorem chunks_data {f : Nat} {body l d r : List UInt8} (h : chunkL body l = .data d r) : chunksF (f + 1) body l = chunksF f (body ++ d) r := by simp only [chunksF, h]
theorem trail_bad {f k : Nat} {l : List UInt8} {e : Int} (h : nextL l = .inl e) : trailF (f + 1) k l = .inl e := by simp only [trailF, h]
theorem trail_done {f k : Nat} {l r : List UInt8} (h : nextL l = .inr ([], r)) : trailF (f + 1) k l = .inr r := by simp only [trailF, h, if_true]
theorem trail_many {f : Nat} {l t r : List UInt8} (h : nextL l = .inr (t, r)) (ht : t ≠ []) : trailF (f + 1) 64 l = .inl 4 := by simp only [trailF, h]; rw [if_neg ht]; simp
theorem trail_field {f k : Nat} {l t r : List UInt8} (h : nextL l = .inr (t, r)) (ht : t ≠ []) (hk : k ≠ 64) (he : (fieldL t).2.2 ≠ 0) : trailF (f + 1) k l = .inl (fieldL t).2.2 := by simp only [trailF, h]; rw [if_neg ht, if_neg hk, if_pos he]
theorem trail_next {f k : Nat} {l t r : List UInt8} (h : nextL l = .inr (t, r)) (ht : t ≠ []) (hk : k ≠ 64) (he : (fieldL t).2.2 = 0) : trailF (f + 1) k l = trailF f (k + 1) r := by simp only [trailF, h]; rw [if_neg ht, if_neg hk, if_neg (by rw [he]; simp)]
end
end Go.Proofs.YtjabcfabenobiaaGreat.Asc
