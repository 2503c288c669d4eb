/- Merged texts: AscSpec AscSpec2 StaSpec DatSpec DatText AscSpec3 FieSpec. -/
import Derived.Laws.Strings
import Derived.Lib.IndexLaws
set_option linter.unusedVariables false
set_option linter.unusedSimpArgs false
set_option maxRecDepth 100000
namespace Go.Proofs.YtiogngfemelifaaDoor.Asc
section
def letterI (b : Int) : Bool := decide (97 ≤ b ∧ b ≤ 122) || decide (65 ≤ b ∧ b ≤ 90)
def digitI (b : Int) : Bool := decide (48 ≤ b ∧ b ≤ 57)
def signI (b : Int) : Bool := b == 33 || b == 35 || b == 36 || b == 37 || b == 38 || b == 39 || b == 42 || b == 43 || b == 45 || b == 46 || b == 94 || b == 95 || b == 96 || b == 124 || b == 126
def tokI (b : Int) : Bool := signI b || letterI b || digitI b
def textI (b : Int) : Bool := b == 9 || decide (32 ≤ b ∧ b ≤ 126) || decide (128 ≤ b)
def blankI (b : Int) : Bool := b == 32 || b == 9
def lowI (b : Int) : Int := if 65 ≤ b ∧ b ≤ 90 then b + 32 else b
/-- every byte of the list has the property -/
def allI (p : Int → Bool) (l : List UInt8) : Bool := l.all fun c => p c.toNat
def tokL (l : List UInt8) : Bool := !l.isEmpty && allI tokI l
def textL (l : List UInt8) : Bool := allI textI l
def lowL (l : List UInt8) : List UInt8 := l.map fun c => UInt8.ofNat (lowI c.toNat).toNat
theorem allI_snoc (p : Int → Bool) (l : List UInt8) (c : UInt8) : allI p (l ++ [c]) = (allI p l && p c.toNat) := by simp [allI]
theorem take_snoc (s : ByteArray) (k : Nat) (h : k < s.size) : s.data.toList.take (k + 1) = s.data.toList.take k ++ [s[k]] := by
  rw [List.take_succ_eq_append_getElem (by simpa using h)]; rfl
theorem all_more {p : Int → Bool} {s : ByteArray} {k : Nat} (h : allI p (s.data.toList.take k) = true) (hk : k < s.size) (hp : p (s[k].toNat) = true) : allI p (s.data.toList.take (k + 1)) = true := by
  rw [take_snoc s k hk, allI_snoc, h, hp]; rfl
theorem all_not {p : Int → Bool} {s : ByteArray} {k : Nat} (hk : k < s.size) (hp : p (s[k].toNat) = false) : allI p s.data.toList = false := by
  rw [← Bool.not_eq_true]; intro h
  have := List.all_eq_true.mp h s[k] (by exact List.getElem_mem (l := s.data.toList) (by simpa using hk))
  rw [hp] at this; cases this
theorem all_end {p : Int → Bool} {s : ByteArray} {k : Nat} (h : allI p (s.data.toList.take k) = true) (hk : s.size ≤ k) : allI p s.data.toList = true := by
  rwa [List.take_of_length_le (by simpa using hk)] at h
/-- the inside of a quoted string, its backslashes resolved -/
def unescL : List UInt8 → Option (List UInt8)
  | [] => some []
  | [c] => if c = 34 ∨ c = 92 then none else some [c]
  | c :: d :: r => if c = 34 then none else if c = 92 then (unescL r).map (d :: ·) else (unescL (d :: r)).map (c :: ·)
theorem unescL_q (r : List UInt8) : unescL (34 :: r) = none := by cases r <;> simp [unescL]
theorem unescL_e : unescL [92] = none := by simp [unescL]
theorem unescL_b (d : UInt8) (r : List UInt8) : unescL (92 :: d :: r) = (unescL r).map (d :: ·) := by simp [unescL]
theorem unescL_o (c : UInt8) (r : List UInt8) (h1 : c ≠ 34) (h2 : c ≠ 92) : unescL (c :: r) = (unescL r).map (c :: ·) := by
  cases r <;> simp [unescL, h1, h2]
theorem drop_cons (s : ByteArray) (k : Nat) (h : k < s.size) : s.data.toList.drop k = s[k] :: s.data.toList.drop (k + 1) := by
  rw [List.drop_eq_getElem_cons (by simpa using h)]; rfl
/-- what has been read so far is acc, what is left is the list from k on -/
def UnAt (l : List UInt8) (k : Nat) (acc : List UInt8) : Prop := acc.length ≤ k ∧ unescL l = (unescL (l.drop k)).map (acc ++ ·)
theorem UnAt.start (l : List UInt8) : UnAt l 0 [] := ⟨by simp, by simp⟩
theorem UnAt.fin {l : List UInt8} {k : Nat} {acc : List UInt8} (h : UnAt l k acc) (hk : l.length ≤ k) : unescL l = some acc := by
  rw [h.2, List.drop_of_length_le hk]; simp [unescL]
theorem byte_eq {c : UInt8} {n : Nat} (h : ((c.toNat : Int) == (n : Int)) = true) (hn : n < 256) : c = UInt8.ofNat n := by
  have : c.toNat = n := by have := eq_of_beq h; omega
  rw [← this]; simp
theorem byte_ne {c : UInt8} {n : Nat} (h : ((c.toNat : Int) == (n : Int)) = false) (hn : n < 256) : c ≠ UInt8.ofNat n := by
  intro e; subst e
  rw [UInt8.toNat_ofNat'] at h
  simp [Nat.mod_eq_of_lt hn] at h
theorem UnAt.quote {s : ByteArray} {k : Nat} {acc : List UInt8} (h : UnAt s.data.toList k acc) (hk : k < s.size) (hc : ((s[k].toNat : Int) == 34) = true) : unescL s.data.toList = none := by
  rw [h.2, drop_cons s k hk, byte_eq (n := 34) hc (by omega)]; show Option.map _ (unescL (34 :: _)) = none; rw [unescL_q]; rfl
theorem UnAt.last {s : ByteArray} {k : Nat} {acc : List UInt8} (h : UnAt s.data.toList k acc) (hk : k < s.size) (hc : ((s[k].toNat : Int) == 92) = true) (he : s.size ≤ k + 1) : unescL s.data.toList = none := by
  rw [h.2, drop_cons s k hk, byte_eq (n := 92) hc (by omega), List.drop_of_length_le (by simpa using he)]; show Option.map _ (unescL [92]) = none; rw [unescL_e]; rfl
theorem UnAt.esc {s : ByteArray} {k : Nat} {acc : List UInt8} (h : UnAt s.data.toList k acc) (hk : k < s.size) (hc : ((s[k].toNat : Int) == 92) = true) (he : k + 1 < s.size) : UnAt s.data.toList (k + 1 + 1) (acc ++ [s[k + 1]]) := by
  refine ⟨by have := h.1; simp; omega, ?_⟩
  rw [h.2, drop_cons s k hk, drop_cons s (k + 1) he, byte_eq (n := 92) hc (by omega)]; show Option.map _ (unescL (92 :: _ :: _)) = _
  rw [unescL_b, Option.map_map]; congr 1; funext x; simp
theorem UnAt.plain {s : ByteArray} {k : Nat} {acc : List UInt8} (h : UnAt s.data.toList k acc) (hk : k < s.size) (h1 : ((s[k].toNat : Int) == 34) = false) (h2 : ((s[k].toNat : Int) == 92) = false) : UnAt s.data.toList (k + 1) (acc ++ [s[k]]) := by
  refine ⟨by have := h.1; simp; omega, ?_⟩
  rw [h.2, drop_cons s k hk, unescL_o _ _ (byte_ne (n := 34) h1 (by omega)) (byte_ne (n := 92) h2 (by omega)), Option.map_map]; congr 1; funext x; simp
/-- a byte inside a quoted string -/
def escB (c : UInt8) : List UInt8 := if c = 34 ∨ c = 92 then [92, c] else [c]
def escL (l : List UInt8) : List UInt8 := l.flatMap escB
def quoteL (l : List UInt8) : List UInt8 := 34 :: (escL l ++ [34])
/-- the string of which a list of bytes is a quoted form -/
def unqIn (l : List UInt8) : Option (List UInt8) := if textL l = true then unescL l else none
def unqL (l : List UInt8) : Option (List UInt8) :=
  if l.length < 2 ∨ l.getD 0 0 ≠ 34 ∨ l.getD (l.length - 1) 0 ≠ 34 then none else unqIn ((l.take (l.length - 1)).drop 1)
theorem getD_at (s : ByteArray) (k : Nat) (h : k < s.size) : s.data.toList.getD k 0 = s[k] := by
  rw [List.getD_eq_getElem?_getD, List.getElem?_eq_getElem (by simpa using h)]; rfl
theorem unq_short {s : ByteArray} (h : s.size < 2) : unqL s.data.toList = none := by
  unfold unqL; rw [if_pos (.inl (by simpa using h))]
theorem unq_head {s : ByteArray} (hp : 0 < s.size) (h : ¬ ((s[0]'hp).toNat : Int) = 34) : unqL s.data.toList = none := by
  have hn : s.data.toList.getD 0 0 ≠ 34 := by rw [getD_at s 0 hp]; intro e; rw [e] at h; exact h rfl
  unfold unqL; rw [if_pos (.inr (.inl hn))]
theorem unq_last {s : ByteArray} (hp : s.size - 1 < s.size) (h : (((s[s.size - 1]'hp).toNat : Int) != 34) = true) : unqL s.data.toList = none := by
  have hz : s.data.toList.length = s.size := by simp
  have hn : s.data.toList.getD (s.data.toList.length - 1) 0 ≠ 34 := by rw [hz, getD_at s _ hp]; intro e; rw [e] at h; cases h
  unfold unqL; rw [if_pos (.inr (.inr hn))]
theorem unq_in {s : ByteArray} (h2 : ¬ s.size < 2) (hp : 0 < s.size) (h0 : ((s[0]'hp).toNat : Int) = 34) (hq : s.size - 1 < s.size) (h1 : (((s[s.size - 1]'hq).toNat : Int) != 34) = false) :
    unqL s.data.toList = unqIn (s.extract 1 (s.size - 1)).data.toList := by
  have hz : s.data.toList.length = s.size := by simp
  have e0 : s[0] = 34 := by
    have : s[0].toNat = 34 := by omega
    exact UInt8.toNat_inj.mp (by simpa using this)
  have e1 : s[s.size - 1] = 34 := byte_eq (n := 34) (by simpa using h1) (by omega)
  unfold unqL
  rw [hz, if_neg]
  · congr 1
    rw [ByteArray.data_extract, Array.toList_extract, List.extract_eq_take_drop, List.drop_take]
  · rw [getD_at s 0 hp, getD_at s _ hq, e0, e1]; simp; omega
theorem unqIn_text {l : List UInt8} (h : textL l = true) : unqIn l = unescL l := by unfold unqIn; rw [if_pos h]
theorem unqIn_not {l : List UInt8} (h : textL l = false) : unqIn l = none := by unfold unqIn; rw [h]; rfl
/-- the last decimal digit of m, as a byte -/
def digB (m : Nat) : UInt8 := UInt8.ofNat (48 + m % 10)
/-- the decimal digits of m ahead of acc, at most f of them, at least one -/
def decF : Nat → Nat → List UInt8 → List UInt8
  | 0, _, acc => acc
  | f + 1, m, acc => if m / 10 = 0 then digB m :: acc else decF f (m / 10) (digB m :: acc)
def decL (n : Int) : List UInt8 := if n < 0 then 45 :: decF 20 n.natAbs [] else decF 20 n.natAbs []
/-- the digits acc have been written, m is left of N -/
def DecAt (N m : Nat) (acc : List UInt8) : Prop :=
  decF (20 - acc.length) m acc = decF 20 N [] ∧ m * 10 ^ acc.length ≤ 9223372036854775808 ∧ (acc.length = 0 ∨ 1 ≤ m)
theorem DecAt.start {N : Nat} (h : N ≤ 9223372036854775808) : DecAt N N [] := ⟨rfl, by simpa using h, .inl rfl⟩
theorem DecAt.len {N m : Nat} {acc : List UInt8} (h : DecAt N m acc) : acc.length ≤ 18 := by
  rcases h.2.2 with h0 | h1
  · omega
  · rcases Nat.lt_or_ge 18 acc.length with hl | hl
    · have a1 : 10 ^ 19 ≤ 10 ^ acc.length := Nat.pow_le_pow_right (by omega) hl
      have a2 : 10 ^ acc.length ≤ m * 10 ^ acc.length := Nat.le_mul_of_pos_left _ h1
      have a3 := h.2.1
      omega
    · exact hl
theorem DecAt.step {N m : Nat} {acc : List UInt8} (h : DecAt N m acc) (hm : ¬ m / 10 = 0) : DecAt N (m / 10) (digB m :: acc) := by
  have hl := h.len
  refine ⟨?_, ?_, .inr (by omega)⟩
  · rw [← h.1]
    obtain ⟨f, hf⟩ : ∃ f, 20 - acc.length = f + 1 := ⟨19 - acc.length, by omega⟩
    have hf' : 20 - (digB m :: acc).length = f := by simp; omega
    rw [hf', hf]; simp only [decF]; rw [if_neg hm]
  · have h1 : m / 10 * 10 ^ (acc.length + 1) = (m / 10 * 10) * 10 ^ acc.length := by rw [Nat.pow_succ]; rw [Nat.mul_assoc, Nat.mul_comm (10 ^ acc.length) 10, ← Nat.mul_assoc]
    have h2 : m / 10 * 10 ≤ m := by omega
    have h3 : (m / 10 * 10) * 10 ^ acc.length ≤ m * 10 ^ acc.length := Nat.mul_le_mul_right _ h2
    have h4 := h.2.1
    rw [List.length_cons, h1]; omega
theorem DecAt.fin {N m : Nat} {acc : List UInt8} (h : DecAt N m acc) (hm : m / 10 = 0) : decF 20 N [] = digB m :: acc := by
  have hl := h.len
  rw [← h.1]
  obtain ⟨f, hf⟩ : ∃ f, 20 - acc.length = f + 1 := ⟨19 - acc.length, by omega⟩
  rw [hf]; simp only [decF]; rw [if_pos hm]
theorem dig_toNat (m : Nat) : ((digB m).toNat : Int) = 48 + (m : Int) % 10 := by
  unfold digB; rw [UInt8.toNat_ofNat']; omega
/-- what stands in the buffer: p zeros, then acc -/
def zbuf (p : Nat) (acc : List UInt8) : List UInt8 := List.replicate p 0 ++ acc
theorem zbuf_set {p : Nat} {acc : List UInt8} (c : UInt8) (hp : 1 ≤ p) : (zbuf p acc).set (p - 1) c = zbuf (p - 1) (c :: acc) := by
  obtain ⟨q, rfl⟩ : ∃ q, p = q + 1 := ⟨p - 1, by omega⟩
  unfold zbuf
  rw [Nat.add_sub_cancel, List.replicate_succ', List.append_assoc, List.set_append_right _ _ (by simp), List.length_replicate, Nat.sub_self]
  rfl
end
section
def foldL (a b : List UInt8) : Bool := decide (lowL a = lowL b)
def lowB (c : UInt8) : UInt8 := UInt8.ofNat (lowI c.toNat).toNat
theorem lowL_map (l : List UInt8) : lowL l = l.map lowB := rfl
theorem lowB_inj {c d : UInt8} (h : lowI c.toNat = lowI d.toNat) : lowB c = lowB d := by unfold lowB; rw [h]
theorem lowI_of {c d : UInt8} (h : lowB c = lowB d) : lowI c.toNat = lowI d.toNat := by
  have hb : ∀ x : UInt8, ((lowB x).toNat : Int) = lowI x.toNat := fun x => by
    have := x.toNat_lt
    unfold lowB; rw [UInt8.toNat_ofNat']
    unfold lowI; split <;> omega
  rw [← hb, ← hb, h]
theorem fold_len {a b : ByteArray} (h : ¬ a.size = b.size) : foldL a.data.toList b.data.toList = false := by
  unfold foldL; rw [decide_eq_false]; intro e
  have := congrArg List.length e
  simp [lowL] at this; exact h this
theorem fold_more {a b : ByteArray} {k : Nat} (h : lowL (a.data.toList.take k) = lowL (b.data.toList.take k)) (ha : k < a.size) (hb : k < b.size) (hc : lowI a[k].toNat = lowI b[k].toNat) : lowL (a.data.toList.take (k + 1)) = lowL (b.data.toList.take (k + 1)) := by
  rw [take_snoc a k ha, take_snoc b k hb]
  simp only [lowL_map] at h ⊢
  rw [List.map_append, List.map_append, h, List.map_cons, List.map_cons, lowB_inj hc]
theorem fold_not {a b : ByteArray} {k : Nat} (ha : k < a.size) (hb : k < b.size) (hc : ¬ lowI a[k].toNat = lowI b[k].toNat) : foldL a.data.toList b.data.toList = false := by
  unfold foldL; rw [decide_eq_false]; intro e
  have h1 := congrArg (fun l : List UInt8 => l[k]?) e
  rw [lowL_map, lowL_map] at h1
  simp only [List.getElem?_map] at h1
  rw [List.getElem?_eq_getElem (by simpa using ha), List.getElem?_eq_getElem (by simpa using hb)] at h1
  simp only [Option.map_some, Option.some.injEq] at h1
  exact hc (lowI_of h1)
theorem fold_end {a b : ByteArray} {k : Nat} (h : lowL (a.data.toList.take k) = lowL (b.data.toList.take k)) (ha : a.size ≤ k) (hb : b.size ≤ k) : foldL a.data.toList b.data.toList = true := by
  rw [List.take_of_length_le (by simpa using ha), List.take_of_length_le (by simpa using hb)] at h
  unfold foldL; rw [decide_eq_true h]
def satI (v d : Int) : Int := if v * 10 + d > 2147483647 then 2147483647 else v * 10 + d
def numF (l : List UInt8) : Int := l.foldl (fun v c => satI v ((c.toNat : Int) - 48)) 0
def numL (l : List UInt8) : Option Int := if allI digitI l = true ∧ l ≠ [] then some (numF l) else none
theorem digitI_bd {b : Int} (h : digitI b = true) : 48 ≤ b ∧ b ≤ 57 := by simpa [digitI] using h
theorem satI_bd {v d : Int} (h0 : 0 ≤ v) (h1 : 0 ≤ d) : 0 ≤ satI v d ∧ satI v d ≤ 2147483647 := by unfold satI; split <;> omega
theorem numF_snoc (l : List UInt8) (c : UInt8) : numF (l ++ [c]) = satI (numF l) ((c.toNat : Int) - 48) := by simp [numF]
theorem numF_more {s : ByteArray} {k : Nat} (hk : k < s.size) : numF (s.data.toList.take (k + 1)) = satI (numF (s.data.toList.take k)) ((s[k].toNat : Int) - 48) := by
  rw [take_snoc s k hk, numF_snoc]
theorem num_not {s : ByteArray} {k : Nat} (hk : k < s.size) (hp : digitI (s[k].toNat) = false) : numL s.data.toList = none := by
  unfold numL; rw [if_neg]; rintro ⟨h, _⟩; rw [all_not hk hp] at h; cases h
def numV : Option Int → Int × Bool
  | none => (0, false)
  | some n => (n, true)
theorem num_end {s : ByteArray} {k : Nat} (h : allI digitI (s.data.toList.take k) = true) (hk : s.size ≤ k) : numV (numL s.data.toList) = (numF (s.data.toList.take k), !s.toList.isEmpty) := by
  have h1 := all_end h hk
  rw [List.take_of_length_le (by simpa using hk), show s.toList = s.data.toList from Go.ByteArray.toList_eq s]
  unfold numL
  rcases hl : s.data.toList with _ | ⟨c, r⟩
  · simp [numV, numF]
  · rw [hl] at h1
    rw [if_pos ⟨h1, by simp⟩]; rfl
def blankB (c : UInt8) : Bool := blankI c.toNat
def trimL (l : List UInt8) : List UInt8 := ((l.dropWhile blankB).reverse.dropWhile blankB).reverse
theorem dropW (a m : List UInt8) (ha : ∀ c ∈ a, blankB c = true) (hm : ∀ c r, m = c :: r → blankB c = false) : (a ++ m).dropWhile blankB = m := by
  induction a with
  | nil =>
    rcases m with _ | ⟨c, r⟩
    · rfl
    · simp [hm c r rfl]
  | cons c a ih =>
    simp only [List.cons_append, List.dropWhile_cons, ha c (by simp)]
    exact ih fun d hd => ha d (by simp [hd])
theorem trim_char (a m b : List UInt8) (ha : ∀ c ∈ a, blankB c = true) (hb : ∀ c ∈ b, blankB c = true) (h1 : ∀ c r, m = c :: r → blankB c = false) (h2 : ∀ c r, m = r ++ [c] → blankB c = false) : trimL (a ++ (m ++ b)) = m := by
  unfold trimL
  rcases hm : m with _ | ⟨c, r⟩
  · have : (a ++ ([] ++ b)).dropWhile blankB = [] := by
      have := dropW (a ++ b) [] (by intro c hc; rcases List.mem_append.mp hc with h | h; exact ha c h; exact hb c h) (by intro c r h; cases h)
      simpa using this
    rw [this]; rfl
  · rw [dropW a _ ha (by intro d q h; rw [List.cons_append] at h; injection h with e _; exact e ▸ h1 c r hm)]
    rw [List.reverse_append, dropW b.reverse _ (by intro d hd; exact hb d (List.mem_reverse.mp hd)) ?_, List.reverse_reverse]
    intro d q h
    have e2 : c :: r = q.reverse ++ [d] := by
      have := congrArg List.reverse h
      simpa using this
    exact h2 d q.reverse (hm.trans e2)
/-- the bounds of what is left: start and end -/
def TrimAt (l : List UInt8) (k e : Nat) : Prop :=
  k ≤ e ∧ e ≤ l.length ∧ (∀ j, j < k → blankB (l.getD j 0) = true) ∧ (∀ j, e ≤ j → j < l.length → blankB (l.getD j 0) = true) ∧ (k < l.length → blankB (l.getD k 0) = false) ∧ (k < e → blankB (l.getD (e - 1) 0) = false)
theorem ex_start (l : List UInt8) : ∀ m k, l.length = k + m → (∀ j, j < k → blankB (l.getD j 0) = true) → ∃ k', k' ≤ l.length ∧ (∀ j, j < k' → blankB (l.getD j 0) = true) ∧ (k' < l.length → blankB (l.getD k' 0) = false)
  | 0, k, h, hk => ⟨k, by omega, hk, by omega⟩
  | m + 1, k, h, hk => by
    rcases hb : blankB (l.getD k 0) with _ | _
    · exact ⟨k, by omega, hk, fun _ => hb⟩
    · exact ex_start l m (k + 1) (by omega) fun j hj => by
        rcases Nat.lt_succ_iff_lt_or_eq.mp hj with h1 | rfl
        · exact hk j h1
        · exact hb
theorem ex_end (l : List UInt8) (k : Nat) : ∀ m e, e = k + m → e ≤ l.length → (∀ j, e ≤ j → j < l.length → blankB (l.getD j 0) = true) → ∃ e', k ≤ e' ∧ e' ≤ l.length ∧ (∀ j, e' ≤ j → j < l.length → blankB (l.getD j 0) = true) ∧ (k < e' → blankB (l.getD (e' - 1) 0) = false)
  | 0, e, h, he, hk => ⟨e, by omega, he, hk, by omega⟩
  | m + 1, e, h, he, hk => by
    rcases hb : blankB (l.getD (e - 1) 0) with _ | _
    · exact ⟨e, by omega, he, hk, fun _ => hb⟩
    · exact ex_end l k m (e - 1) (by omega) (by omega) fun j hj hl => by
        by_cases e' : j = e - 1
        · subst e'; exact hb
        · exact hk j (by omega) hl
theorem ex_trim (l : List UInt8) : ∃ k e, TrimAt l k e := by
  obtain ⟨k, h1, h2, h3⟩ := ex_start l l.length 0 (by omega) (by intro j hj; omega)
  obtain ⟨e, h4, h5, h6, h7⟩ := ex_end l k (l.length - k) l.length (by omega) (Nat.le_refl _) (by intro j hj hl; omega)
  exact ⟨k, e, h4, h5, h2, h6, h3, h7⟩
theorem getD_mem {l : List UInt8} {c : UInt8} (h : c ∈ l) : ∃ j, j < l.length ∧ l.getD j 0 = c := by
  obtain ⟨j, hj, e⟩ := List.getElem_of_mem h
  exact ⟨j, hj, by simp [List.getD_eq_getElem?_getD, hj, e]⟩
theorem trim_at {l : List UInt8} {k e : Nat} (h : TrimAt l k e) : trimL l = (l.take e).drop k := by
  obtain ⟨h1, h2, h3, h4, h5, h6⟩ := h
  have hl : l = l.take k ++ ((l.take e).drop k ++ l.drop e) := by
    have e1 : (l.take e).take k = l.take k := by rw [List.take_take, Nat.min_eq_left h1]
    rw [← List.append_assoc]
    conv => lhs; rw [← List.take_append_drop e l, ← List.take_append_drop k (l.take e), e1]
  have hm : ∀ j, j < ((l.take e).drop k).length → ((l.take e).drop k).getD j 0 = l.getD (k + j) 0 := by
    intro j hj
    simp only [List.length_drop, List.length_take] at hj
    simp only [List.getD_eq_getElem?_getD, List.getElem?_drop]
    rw [List.getElem?_take_of_lt (by omega)]
  have hlen : ((l.take e).drop k).length = e - k := by simp only [List.length_drop, List.length_take]; omega
  conv => lhs; rw [hl]
  refine trim_char _ _ _ ?_ ?_ ?_ ?_
  · intro c hc
    obtain ⟨j, hj, rfl⟩ := getD_mem hc
    rw [List.length_take] at hj
    have := h3 j (by omega)
    simpa [List.getD_eq_getElem?_getD, List.getElem?_take_of_lt (show j < k by omega)] using this
  · intro c hc
    obtain ⟨j, hj, rfl⟩ := getD_mem hc
    rw [List.length_drop] at hj
    have := h4 (e + j) (by omega) (by omega)
    simpa [List.getD_eq_getElem?_getD, List.getElem?_drop] using this
  · intro c r hcr
    have := hm 0 (by rw [hcr]; simp)
    rw [hcr] at this
    have e2 : c = l.getD k 0 := by simpa using this
    rw [e2]; refine h5 ?_
    have : 0 < e - k := by rw [← hlen, hcr]; simp
    omega
  · intro c r hcr
    have hr : e - k = r.length + 1 := by rw [← hlen, hcr]; simp
    have := hm r.length (by rw [hcr]; simp)
    rw [hcr] at this
    have e2 : c = l.getD (k + r.length) 0 := by simpa [List.getD_eq_getElem?_getD] using this
    rw [e2, show k + r.length = e - 1 by omega]; exact h6 (by omega)
end
section
/-- a string out of a list of bytes, as a word that no rule opens -/
def bs (l : List UInt8) : ByteArray := ⟨l.toArray⟩
theorem bs_toList (l : List UInt8) : (bs l).data.toList = l := rfl
theorem bs_size (l : List UInt8) : (bs l).size = l.length := rfl
theorem bs_inj {a b : List UInt8} (h : bs a = bs b) : a = b := by
  have := congrArg (fun s : ByteArray => s.data.toList) h
  simpa [bs_toList] using this
theorem toList_bs (l : List UInt8) : (bs l).toList = l := by rw [ByteArray.toList_eq]; rfl
theorem toList_data (s : ByteArray) : s.toList = s.data.toList := ByteArray.toList_eq s
theorem ext_bs (s : ByteArray) (a b : Nat) : s.extract a b = bs ((s.data.toList.take b).drop a) := by
  apply ByteArray.ext
  rw [ByteArray.data_extract]
  apply Array.toList_inj.mp
  rw [Array.toList_extract, List.extract_eq_take_drop, List.drop_take]
  rfl
end
section
/-- the leap years from the year 1 to the one before y -/
def lybN (y : Nat) : Nat := (y - 1) / 4 - (y - 1) / 100 + (y - 1) / 400
def leapN (y : Nat) : Bool := y % 4 == 0 && (y % 100 != 0 || y % 400 == 0)
/-- the days from the beginning of 1970 to that of the year y -/
def dbyN (y : Nat) : Nat := 365 * (y - 1970) + (lybN y - 477)
def lenM (lp : Bool) (m : Nat) : Nat := [31, if lp then 29 else 28, 31, 30, 31, 30, 31, 31, 30, 31, 30, 31].getD (m - 1) 0
/-- the days of the months before m -/
def cumM (lp : Bool) : Nat → Nat
  | 0 => 0
  | 1 => 0
  | m + 2 => cumM lp (m + 1) + lenM lp (m + 1)
theorem leap_iff (y : Nat) : leapN y = true ↔ y % 4 = 0 ∧ (y % 100 ≠ 0 ∨ y % 400 = 0) := by
  unfold leapN; simp
theorem leap_not (y : Nat) : leapN y = false ↔ ¬ (y % 4 = 0 ∧ (y % 100 ≠ 0 ∨ y % 400 = 0)) := by
  rw [← leap_iff]; simp
theorem lyb_leap {y : Nat} (h : 1 ≤ y) (hl : leapN y = true) : lybN (y + 1) = lybN y + 1 := by
  have := (leap_iff y).1 hl
  unfold lybN; omega
theorem lyb_flat {y : Nat} (h : 1 ≤ y) (hl : leapN y = false) : lybN (y + 1) = lybN y := by
  have := (leap_not y).1 hl
  unfold lybN; omega
theorem lyb_mono {a b : Nat} (h1 : 1 ≤ a) (h : a ≤ b) : lybN a ≤ lybN b := by
  induction b with
  | zero => omega
  | succ b ih =>
    by_cases e : a = b + 1
    · subst e; exact Nat.le_refl _
    · have := ih (by omega)
      rcases hl : leapN b with _ | _
      · rw [lyb_flat (by omega) hl]; exact this
      · rw [lyb_leap (by omega) hl]; omega
theorem lyb_1970 : lybN 1970 = 477 := by decide
theorem lyb_ge {y : Nat} (h : 1970 ≤ y) : 477 ≤ lybN y := by rw [← lyb_1970]; exact lyb_mono (by omega) h
theorem lyb_le (y : Nat) : lybN y ≤ y := by unfold lybN; omega
theorem dby_leap {y : Nat} (h : 1970 ≤ y) (hl : leapN y = true) : dbyN (y + 1) = dbyN y + 366 := by
  have h1 := lyb_ge h
  have h2 := lyb_leap (by omega) hl
  unfold dbyN; omega
theorem dby_flat {y : Nat} (h : 1970 ≤ y) (hl : leapN y = false) : dbyN (y + 1) = dbyN y + 365 := by
  have h1 := lyb_ge h
  have h2 := lyb_flat (by omega) hl
  unfold dbyN; omega
theorem dby_1970 : dbyN 1970 = 0 := by decide
theorem dby_10000 : dbyN 10000 = 2932897 := by decide
theorem cum_13 (lp : Bool) : cumM lp 13 = if lp then 366 else 365 := by cases lp <;> rfl
theorem dby_next {y : Nat} (h : 1970 ≤ y) : dbyN (y + 1) = dbyN y + cumM (leapN y) 13 := by
  rw [cum_13]
  rcases hl : leapN y with _ | _
  · exact dby_flat h hl
  · exact dby_leap h hl
theorem dby_mono {a b : Nat} (h1 : 1970 ≤ a) (h : a ≤ b) : dbyN a ≤ dbyN b := by
  have := lyb_mono (by omega : 1 ≤ a) h
  unfold dbyN; omega
theorem dby_le {y : Nat} (h : 1970 ≤ y) (h2 : y ≤ 10001) : dbyN y ≤ 2940000 := by
  have := dby_mono h h2
  have : dbyN 10001 = 2933263 := by decide
  omega
/-- the first year to look at is none too late -/
theorem dby_first (n : Nat) : dbyN (1970 + n / 366) ≤ n := by
  have h : ∀ k, dbyN (1970 + k) ≤ 366 * k := by
    intro k
    induction k with
    | zero => decide
    | succ k ih =>
      rcases hl : leapN (1970 + k) with _ | _
      · rw [show 1970 + (k + 1) = 1970 + k + 1 from rfl, dby_flat (by omega) hl]; omega
      · rw [show 1970 + (k + 1) = 1970 + k + 1 from rfl, dby_leap (by omega) hl]; omega
  have := h (n / 366)
  omega
theorem cum_next (lp : Bool) {m : Nat} (h : 1 ≤ m) : cumM lp (m + 1) = cumM lp m + lenM lp m := by
  obtain ⟨k, rfl⟩ : ∃ k, m = k + 1 := ⟨m - 1, by omega⟩
  rfl
theorem cum_mono (lp : Bool) {a b : Nat} (h1 : 1 ≤ a) (h : a ≤ b) : cumM lp a ≤ cumM lp b := by
  induction b with
  | zero => omega
  | succ b ih =>
    by_cases e : a = b + 1
    · subst e; exact Nat.le_refl _
    · have := ih (by omega)
      rw [cum_next lp (by omega)]; omega
theorem cum_le (lp : Bool) {m : Nat} (h : m ≤ 13) : cumM lp m ≤ 366 := by
  have key : ∀ (b : Bool) (k : Fin 14), cumM b k.1 ≤ 366 := by decide
  exact key lp ⟨m, by omega⟩
theorem len_le (lp : Bool) {m : Nat} (h1 : 1 ≤ m) (h : m ≤ 12) : lenM lp m ≤ 31 ∧ 28 ≤ lenM lp m := by
  have key : ∀ (b : Bool) (k : Fin 13), 1 ≤ k.1 → lenM b k.1 ≤ 31 ∧ 28 ≤ lenM b k.1 := by decide
  exact key lp ⟨m, by omega⟩ h1
/-- the calendar has this day -/
def IsDay (y m d : Nat) : Prop := (1970 ≤ y ∧ y ≤ 9999) ∧ (1 ≤ m ∧ m ≤ 12) ∧ 1 ≤ d ∧ d ≤ lenM (leapN y) m
instance (y m d : Nat) : Decidable (IsDay y m d) := by unfold IsDay; infer_instance
def dayN (y m d : Nat) : Nat := dbyN y + cumM (leapN y) m + (d - 1)
/-- day n is the day d of the month m of the year y -/
def IsCal (n y m d : Nat) : Prop := IsDay y m d ∧ dayN y m d = n
def daysV (y m d : Int) : Int := if (0 ≤ y ∧ 0 ≤ m ∧ 0 ≤ d) ∧ IsDay y.toNat m.toNat d.toNat then (dayN y.toNat m.toNat d.toNat : Nat) else -1
theorem days_yes {y m d : Nat} (h : IsDay y m d) : daysV y m d = (dayN y m d : Nat) := by
  unfold daysV; rw [if_pos ⟨⟨by omega, by omega, by omega⟩, h⟩]; rfl
theorem days_no {y m d : Int} (h : ¬ ((0 ≤ y ∧ 0 ≤ m ∧ 0 ≤ d) ∧ IsDay y.toNat m.toNat d.toNat)) : daysV y m d = -1 := by
  unfold daysV; rw [if_neg h]
theorem days_cases (y m d : Int) : (∃ a b c : Nat, y = a ∧ m = b ∧ d = c ∧ IsDay a b c ∧ daysV y m d = (dayN a b c : Nat)) ∨ (¬ ((0 ≤ y ∧ 0 ≤ m ∧ 0 ≤ d) ∧ IsDay y.toNat m.toNat d.toNat) ∧ daysV y m d = -1) := by
  by_cases h : (0 ≤ y ∧ 0 ≤ m ∧ 0 ≤ d) ∧ IsDay y.toNat m.toNat d.toNat
  · refine .inl ⟨y.toNat, m.toNat, d.toNat, by omega, by omega, by omega, h.2, ?_⟩
    unfold daysV; rw [if_pos h]
  · exact .inr ⟨h, days_no h⟩
theorem cal_range {n y m d : Nat} (h : IsCal n y m d) : dbyN y + cumM (leapN y) m ≤ n ∧ n < dbyN y + cumM (leapN y) (m + 1) ∧ d = n - dbyN y - cumM (leapN y) m + 1 := by
  obtain ⟨⟨hy, hm, hd⟩, rfl⟩ := h
  have := cum_next (leapN y) hm.1
  unfold dayN; omega
theorem cal_year {n y m d : Nat} (h : IsCal n y m d) : dbyN y ≤ n ∧ n < dbyN (y + 1) := by
  have h1 := cal_range h
  obtain ⟨⟨hy, hm, hd⟩, _⟩ := h
  have h2 := dby_next hy.1
  have h3 := cum_mono (leapN y) (by omega : 1 ≤ m + 1) (by omega : m + 1 ≤ 13)
  omega
theorem cal_lt {n y m d : Nat} (h : IsCal n y m d) : n < 2932897 := by
  have h1 := cal_year h
  have := dby_mono (by have := h.1.1; omega) (by have := h.1.1; omega : y + 1 ≤ 10000)
  rw [dby_10000] at this; omega
/-- the year that is looked at is too early exactly if the next one has begun -/
theorem year_lt {n y m d x : Nat} (h : IsCal n y m d) (hx : 1970 ≤ x) : x < y ↔ dbyN (x + 1) ≤ n := by
  have h1 := cal_year h
  constructor
  · intro q; have := dby_mono (by omega) (by omega : x + 1 ≤ y); omega
  · intro q
    refine Nat.lt_of_not_le fun hle => ?_
    have := dby_mono (by have := h.1.1; omega) (by omega : y + 1 ≤ x + 1)
    omega
theorem month_lt {n y m d x : Nat} (h : IsCal n y m d) (hx : 1 ≤ x) : x < m ↔ dbyN y + cumM (leapN y) (x + 1) ≤ n := by
  have h1 := cal_range h
  constructor
  · intro q; have := cum_mono (leapN y) (by omega) (by omega : x + 1 ≤ m); omega
  · intro q
    refine Nat.lt_of_not_le fun hle => ?_
    have := cum_mono (leapN y) (by omega) (by omega : m + 1 ≤ x + 1)
    omega
theorem cal_uniq {n y m d y' m' d' : Nat} (h : IsCal n y m d) (h' : IsCal n y' m' d') : y = y' ∧ m = m' ∧ d = d' := by
  have a1 := cal_year h
  have a2 := cal_year h'
  have b1 := year_lt h h'.1.1.1
  have b2 := year_lt h' h.1.1.1
  obtain rfl : y = y' := by omega
  have c1 := month_lt h h'.1.2.1.1
  have c2 := month_lt h' h.1.2.1.1
  have e1 := cal_range h
  have e2 := cal_range h'
  obtain rfl : m = m' := by omega
  exact ⟨rfl, rfl, by omega⟩
theorem cal_exists {n : Nat} (h : n < 2932897) : ∃ y m d, IsCal n y m d := by
  have hy : ∀ k, n < dbyN (1970 + k) → ∃ y, 1970 ≤ y ∧ y < 1970 + k ∧ dbyN y ≤ n ∧ n < dbyN (y + 1) := by
    intro k
    induction k with
    | zero => intro q; rw [Nat.add_zero, dby_1970] at q; omega
    | succ k ih =>
      intro q
      by_cases e : n < dbyN (1970 + k)
      · obtain ⟨y, h1, h2, h3⟩ := ih e
        exact ⟨y, h1, by omega, h3⟩
      · exact ⟨1970 + k, by omega, by omega, by omega, q⟩
  obtain ⟨y, h1, h2, h3, h4⟩ := hy 8030 (by rw [show 1970 + 8030 = 10000 from rfl, dby_10000]; exact h)
  rw [dby_next h1] at h4
  have hm : ∀ k, n - dbyN y < cumM (leapN y) (1 + k) → ∃ m, 1 ≤ m ∧ m < 1 + k ∧ cumM (leapN y) m ≤ n - dbyN y ∧ n - dbyN y < cumM (leapN y) (m + 1) := by
    intro k
    induction k with
    | zero => intro q; have : cumM (leapN y) (1 + 0) = 0 := rfl; omega
    | succ k ih =>
      intro q
      by_cases e : n - dbyN y < cumM (leapN y) (1 + k)
      · obtain ⟨m, m1, m2, m3⟩ := ih e
        exact ⟨m, m1, by omega, m3⟩
      · exact ⟨1 + k, by omega, by omega, by omega, q⟩
  obtain ⟨m, m1, m2, m3, m4⟩ := hm 12 (by show n - dbyN y < cumM (leapN y) 13; omega)
  rw [cum_next _ m1] at m4
  refine ⟨y, m, n - dbyN y - cumM (leapN y) m + 1, ⟨⟨h1, by omega⟩, ⟨m1, by omega⟩, by omega, by omega⟩, ?_⟩
  unfold dayN; omega
end
section
def wkL (k : Nat) : List UInt8 := [[84, 104, 117], [70, 114, 105], [83, 97, 116], [83, 117, 110], [77, 111, 110], [84, 117, 101], [87, 101, 100]].getD k []
def monL (m : Nat) : List UInt8 := [[74, 97, 110], [70, 101, 98], [77, 97, 114], [65, 112, 114], [77, 97, 121], [74, 117, 110], [74, 117, 108], [65, 117, 103], [83, 101, 112], [79, 99, 116], [78, 111, 118], [68, 101, 99]].getD (m - 1) []
def twoL (n : Nat) : List UInt8 := [digB (n / 10), digB n]
def fourL (n : Nat) : List UInt8 := [digB (n / 1000), digB (n / 100), digB (n / 10), digB n]
def clkL (s : Nat) : List UInt8 := twoL (s / 3600) ++ [58] ++ twoL (s / 60 % 60) ++ [58] ++ twoL (s % 60)
def dateL (y m d n s : Nat) : List UInt8 := wkL (n % 7) ++ [44, 32] ++ twoL d ++ [32] ++ monL m ++ [32] ++ fourL y ++ [32] ++ clkL s ++ [32, 71, 77, 84]
/-- l is the date t seconds after the beginning of 1970 -/
def TextOf (t : Int) (l : List UInt8) : Prop := ∃ n s y m d : Nat, t = (n * 86400 + s : Nat) ∧ s < 86400 ∧ IsCal n y m d ∧ l = dateL y m d n s
/-- l is what Format returns for t -/
def FmtIs (t : Int) (l : List UInt8) : Prop := TextOf t l ∨ ((t < 0 ∨ 253402300799 < t) ∧ l = [])
theorem wk_three {k : Nat} (h : k < 7) : ∃ a b c, wkL k = [a, b, c] := by
  have key : ∀ k : Fin 7, (wkL k.1).length = 3 := by decide
  have := key ⟨k, h⟩
  match hw : wkL k, this with
  | [a, b, c], _ => exact ⟨a, b, c, rfl⟩
theorem mon_three {m : Nat} (h1 : 1 ≤ m) (h : m ≤ 12) : ∃ a b c, monL m = [a, b, c] := by
  have key : ∀ m : Fin 13, 1 ≤ m.1 → (monL m.1).length = 3 := by decide
  have := key ⟨m, by omega⟩ h1
  match hw : monL m, this with
  | [a, b, c], _ => exact ⟨a, b, c, rfl⟩
theorem date_len {y m d n s : Nat} (h1 : 1 ≤ m) (h : m ≤ 12) : (dateL y m d n s).length = 29 := by
  obtain ⟨a, b, c, hw⟩ := wk_three (Nat.mod_lt n (by omega : 0 < 7))
  obtain ⟨p, q, r, hm⟩ := mon_three h1 h
  unfold dateL clkL twoL fourL
  rw [hw, hm]; rfl
theorem text_len {t : Int} {l : List UInt8} (h : TextOf t l) : l.length = 29 := by
  obtain ⟨n, s, y, m, d, rfl, hs, hc, rfl⟩ := h
  exact date_len hc.1.2.1.1 hc.1.2.1.2
theorem text_range20 {t : Int} {l : List UInt8} (h : TextOf t l) : 0 ≤ t ∧ t ≤ 253402300799 := by
  obtain ⟨n, s, y, m, d, rfl, hs, hc, rfl⟩ := h
  have := cal_lt hc
  omega
theorem text_uniq {t : Int} {l l' : List UInt8} (h : TextOf t l) (h' : TextOf t l') : l = l' := by
  obtain ⟨n, s, y, m, d, rfl, hs, hc, rfl⟩ := h
  obtain ⟨n', s', y', m', d', e, hs', hc', rfl⟩ := h'
  obtain rfl : n = n' := by omega
  obtain rfl : s = s' := by omega
  obtain ⟨rfl, rfl, rfl⟩ := cal_uniq hc hc'
  rfl
theorem text_exists {t : Int} (h0 : 0 ≤ t) (h1 : t ≤ 253402300799) : ∃ n s y m d : Nat, t = (n * 86400 + s : Nat) ∧ s < 86400 ∧ IsCal n y m d := by
  obtain ⟨y, m, d, hc⟩ := cal_exists (n := t.toNat / 86400) (by omega)
  exact ⟨t.toNat / 86400, t.toNat % 86400, y, m, d, by omega, by omega, hc⟩
theorem fmt_exists (t : Int) : ∃ l, FmtIs t l := by
  by_cases h : t < 0 ∨ 253402300799 < t
  · exact ⟨[], .inr ⟨h, rfl⟩⟩
  · obtain ⟨n, s, y, m, d, e, hs, hc⟩ := text_exists (t := t) (by omega) (by omega)
    exact ⟨_, .inl ⟨n, s, y, m, d, e, hs, hc, rfl⟩⟩
theorem digB_is (m : Nat) : digitI ((digB m).toNat : Int) = true := by
  have := dig_toNat m
  unfold digitI
  simp; omega
theorem digB_mod (m k : Nat) (h : m % 10 = k % 10) : digB m = digB k := by unfold digB; rw [h]
theorem dig_back {c : UInt8} (h : digitI (c.toNat : Int) = true) : c = digB (c.toNat - 48) := by
  have hb := digitI_bd h
  have := dig_toNat (c.toNat - 48)
  exact UInt8.toNat_inj.mp (by omega)
theorem num_two (a b : UInt8) (v : Int) : numL [a, b] = some v ↔ (digitI (a.toNat : Int) = true ∧ digitI (b.toNat : Int) = true) ∧ v = ((a.toNat : Int) - 48) * 10 + ((b.toNat : Int) - 48) := by
  have e : allI digitI [a, b] = (digitI (a.toNat : Int) && digitI (b.toNat : Int)) := by simp [allI]
  unfold numL
  constructor
  · intro h
    split at h
    · rename_i q
      rw [e, Bool.and_eq_true] at q
      have h1 := digitI_bd q.1.1
      have h2 := digitI_bd q.1.2
      refine ⟨q.1, ?_⟩
      have : numF [a, b] = v := Option.some.inj h
      rw [← this]
      show satI (satI 0 _) _ = _
      unfold satI
      split <;> split <;> omega
    · cases h
  · rintro ⟨q, rfl⟩
    have h1 := digitI_bd q.1
    have h2 := digitI_bd q.2
    rw [if_pos ⟨by rw [e, q.1, q.2]; rfl, by simp⟩]
    congr 1
    show satI (satI 0 _) _ = _
    unfold satI
    split <;> split <;> omega
theorem num_four (a b c d : UInt8) (v : Int) : numL [a, b, c, d] = some v ↔ (digitI (a.toNat : Int) = true ∧ digitI (b.toNat : Int) = true ∧ digitI (c.toNat : Int) = true ∧ digitI (d.toNat : Int) = true) ∧ v = ((a.toNat : Int) - 48) * 1000 + ((b.toNat : Int) - 48) * 100 + ((c.toNat : Int) - 48) * 10 + ((d.toNat : Int) - 48) := by
  have e : allI digitI [a, b, c, d] = (digitI (a.toNat : Int) && (digitI (b.toNat : Int) && (digitI (c.toNat : Int) && digitI (d.toNat : Int)))) := by simp [allI]
  have key : ∀ x y z u : Int, (0 ≤ x ∧ x ≤ 9) → (0 ≤ y ∧ y ≤ 9) → (0 ≤ z ∧ z ≤ 9) → (0 ≤ u ∧ u ≤ 9) → satI (satI (satI (satI 0 x) y) z) u = x * 1000 + y * 100 + z * 10 + u := by
    intro x y z u hx hy hz hu
    have e1 : satI 0 x = x := by unfold satI; split <;> omega
    have e2 : satI x y = x * 10 + y := by unfold satI; split <;> omega
    have e3 : satI (x * 10 + y) z = x * 100 + y * 10 + z := by unfold satI; split <;> omega
    have e4 : satI (x * 100 + y * 10 + z) u = x * 1000 + y * 100 + z * 10 + u := by unfold satI; split <;> omega
    rw [e1, e2, e3, e4]
  unfold numL
  constructor
  · intro h
    split at h
    · rename_i q
      rw [e, Bool.and_eq_true, Bool.and_eq_true, Bool.and_eq_true] at q
      have h1 := digitI_bd q.1.1
      have h2 := digitI_bd q.1.2.1
      have h3 := digitI_bd q.1.2.2.1
      have h4 := digitI_bd q.1.2.2.2
      refine ⟨q.1, ?_⟩
      have : numF [a, b, c, d] = v := Option.some.inj h
      rw [← this]
      exact key _ _ _ _ (by omega) (by omega) (by omega) (by omega)
    · cases h
  · rintro ⟨q, rfl⟩
    have h1 := digitI_bd q.1
    have h2 := digitI_bd q.2.1
    have h3 := digitI_bd q.2.2.1
    have h4 := digitI_bd q.2.2.2
    rw [if_pos ⟨by rw [e, q.1, q.2.1, q.2.2.1, q.2.2.2]; rfl, by simp⟩]
    congr 1
    exact key _ _ _ _ (by omega) (by omega) (by omega) (by omega)
theorem num_twoL {n : Nat} (h : n < 100) : numL (twoL n) = some (n : Int) := by
  refine (num_two _ _ _).2 ⟨⟨digB_is _, digB_is _⟩, ?_⟩
  rw [dig_toNat, dig_toNat]; omega
theorem num_fourL {n : Nat} (h : n < 10000) : numL (fourL n) = some (n : Int) := by
  refine (num_four _ _ _ _ _).2 ⟨⟨digB_is _, digB_is _, digB_is _, digB_is _⟩, ?_⟩
  rw [dig_toNat, dig_toNat, dig_toNat, dig_toNat]; omega
theorem two_back {a b : UInt8} {v : Int} (h : numL [a, b] = some v) : ∃ n : Nat, v = n ∧ n < 100 ∧ [a, b] = twoL n := by
  obtain ⟨⟨ha, hb⟩, rfl⟩ := (num_two _ _ _).1 h
  have h1 := digitI_bd ha
  have h2 := digitI_bd hb
  refine ⟨(a.toNat - 48) * 10 + (b.toNat - 48), by omega, by omega, ?_⟩
  unfold twoL
  have e : ∀ (c : UInt8) (k : Nat), digitI (c.toNat : Int) = true → k % 10 = (c.toNat - 48) % 10 → digB k = c := fun c k h q => (digB_mod _ _ q).trans (dig_back h).symm
  rw [e a _ ha (by omega), e b _ hb (by omega)]
theorem four_back {a b c d : UInt8} {v : Int} (h : numL [a, b, c, d] = some v) : ∃ n : Nat, v = n ∧ n < 10000 ∧ [a, b, c, d] = fourL n := by
  obtain ⟨⟨ha, hb, hc, hd⟩, rfl⟩ := (num_four _ _ _ _ _).1 h
  have h1 := digitI_bd ha
  have h2 := digitI_bd hb
  have h3 := digitI_bd hc
  have h4 := digitI_bd hd
  refine ⟨(a.toNat - 48) * 1000 + (b.toNat - 48) * 100 + (c.toNat - 48) * 10 + (d.toNat - 48), by omega, by omega, ?_⟩
  unfold fourL
  have e : ∀ (c : UInt8) (k : Nat), digitI (c.toNat : Int) = true → k % 10 = (c.toNat - 48) % 10 → digB k = c := fun c k h q => (digB_mod _ _ q).trans (dig_back h).symm
  rw [e a _ ha (by omega), e b _ hb (by omega), e c _ hc (by omega), e d _ hd (by omega)]
/-- what Decimal writes -/
theorem dec_one {n : Nat} (h : n < 10) : decL (n : Int) = [digB n] := by
  unfold decL
  rw [if_neg (by omega), show ((n : Int)).natAbs = n from rfl]
  show (if n / 10 = 0 then [digB n] else _) = _
  rw [if_pos (by omega)]
theorem decF_last {f m : Nat} {acc : List UInt8} (h : m / 10 = 0) : decF (f + 1) m acc = digB m :: acc := by
  show (if m / 10 = 0 then _ else _) = _
  rw [if_pos h]
theorem decF_more {f m : Nat} {acc : List UInt8} (h : ¬ m / 10 = 0) : decF (f + 1) m acc = decF f (m / 10) (digB m :: acc) := by
  show (if m / 10 = 0 then _ else _) = _
  rw [if_neg h]
theorem dec_fourL {n : Nat} (h1 : 1000 ≤ n) (h : n < 10000) : decL (n : Int) = fourL n := by
  unfold decL fourL
  rw [if_neg (by omega), show ((n : Int)).natAbs = n from rfl, decF_more (by omega), decF_more (by omega), decF_more (by omega), decF_last (by omega), show n / 10 / 10 / 10 = n / 1000 from by omega, show n / 10 / 10 = n / 100 from by omega]
def monI (l : List UInt8) : Nat :=
  if l = monL 1 then 1 else if l = monL 2 then 2 else if l = monL 3 then 3 else if l = monL 4 then 4 else if l = monL 5 then 5 else if l = monL 6 then 6 else
  if l = monL 7 then 7 else if l = monL 8 then 8 else if l = monL 9 then 9 else if l = monL 10 then 10 else if l = monL 11 then 11 else if l = monL 12 then 12 else 0
theorem mon_back {m : Nat} (h1 : 1 ≤ m) (h : m ≤ 12) : monI (monL m) = m := by
  have key : ∀ m : Fin 13, 1 ≤ m.1 → monI (monL m.1) = m.1 := by decide
  exact key ⟨m, by omega⟩ h1
theorem mon_cases (l : List UInt8) : (∃ m, 1 ≤ m ∧ m ≤ 12 ∧ l = monL m ∧ monI l = m) ∨ ((∀ m, 1 ≤ m → m ≤ 12 → l ≠ monL m) ∧ monI l = 0) := by
  by_cases h : ∃ m, 1 ≤ m ∧ m ≤ 12 ∧ l = monL m
  · obtain ⟨m, h1, h2, rfl⟩ := h
    exact .inl ⟨m, h1, h2, rfl, mon_back h1 h2⟩
  · have hn : ∀ m, 1 ≤ m → m ≤ 12 → l ≠ monL m := fun m h1 h2 e => h ⟨m, h1, h2, e⟩
    refine .inr ⟨hn, ?_⟩
    unfold monI
    rw [if_neg (hn 1 (by omega) (by omega)), if_neg (hn 2 (by omega) (by omega)), if_neg (hn 3 (by omega) (by omega)), if_neg (hn 4 (by omega) (by omega)), if_neg (hn 5 (by omega) (by omega)), if_neg (hn 6 (by omega) (by omega)),
      if_neg (hn 7 (by omega) (by omega)), if_neg (hn 8 (by omega) (by omega)), if_neg (hn 9 (by omega) (by omega)), if_neg (hn 10 (by omega) (by omega)), if_neg (hn 11 (by omega) (by omega)), if_neg (hn 12 (by omega) (by omega))]
def cutD (l : List UInt8) (a b : Nat) : List UInt8 := (l.take b).drop a
def nmD (l : List UInt8) (a b : Nat) : Int := (numV (numL (cutD l a b))).1
def dayD (l : List UInt8) : Int := daysV (nmD l 12 16) (monI (cutD l 8 11)) (nmD l 5 7)
def timeD (l : List UInt8) : Int := dayD l * 86400 + (nmD l 17 19 * 3600 + nmD l 20 22 * 60 + nmD l 23 25)
theorem ext_cut (s : ByteArray) (a b : Nat) : s.extract a b = bs (cutD s.data.toList a b) := ext_bs s a b
structure GoodD (l : List UInt8) : Prop where
  len : l.length = 29
  c3 : cutD l 3 5 = [44, 32]
  c7 : l.getD 7 0 = 32
  c11 : l.getD 11 0 = 32
  c16 : l.getD 16 0 = 32
  c19 : l.getD 19 0 = 58
  c22 : l.getD 22 0 = 58
  c25 : l.drop 25 = [32, 71, 77, 84]
  n5 : ∃ v, numL (cutD l 5 7) = some v
  n12 : ∃ v, numL (cutD l 12 16) = some v
  n17 : ∃ v, numL (cutD l 17 19) = some v
  n20 : ∃ v, numL (cutD l 20 22) = some v
  n23 : ∃ v, numL (cutD l 23 25) = some v
  day : ¬ dayD l < 0
  hh : ¬ 23 < nmD l 17 19
  mi : ¬ 59 < nmD l 20 22
  ss : ¬ 59 < nmD l 23 25
  wk : wkL ((dayD l).toNat % 7) = l.take 3
theorem nmD_of {l : List UInt8} {a b : Nat} {v : Int} (h : numL (cutD l a b) = some v) : nmD l a b = v := by unfold nmD; rw [h]; rfl
theorem cells29 {l : List UInt8} (h : l.length = 29) : ∃ a0 a1 a2 a3 a4 a5 a6 a7 a8 a9 a10 a11 a12 a13 a14 a15 a16 a17 a18 a19 a20 a21 a22 a23 a24 a25 a26 a27 a28, l = [a0, a1, a2, a3, a4, a5, a6, a7, a8, a9, a10, a11, a12, a13, a14, a15, a16, a17, a18, a19, a20, a21, a22, a23, a24, a25, a26, a27, a28] := by
  match l, h with
  | [a0, a1, a2, a3, a4, a5, a6, a7, a8, a9, a10, a11, a12, a13, a14, a15, a16, a17, a18, a19, a20, a21, a22, a23, a24, a25, a26, a27, a28], _ => exact ⟨a0, a1, a2, a3, a4, a5, a6, a7, a8, a9, a10, a11, a12, a13, a14, a15, a16, a17, a18, a19, a20, a21, a22, a23, a24, a25, a26, a27, a28, rfl⟩
theorem good_text {l : List UInt8} (h : GoodD l) : TextOf (timeD l) l := by
  obtain ⟨len, c3, c7, c11, c16, c19, c22, c25, ⟨v5, n5⟩, ⟨v12, n12⟩, ⟨v17, n17⟩, ⟨v20, n20⟩, ⟨v23, n23⟩, day, hh, mi, ss, wk⟩ := h
  have e5 := nmD_of n5
  have e12 := nmD_of n12
  have e17 := nmD_of n17
  have e20 := nmD_of n20
  have e23 := nmD_of n23
  rw [e17] at hh; rw [e20] at mi; rw [e23] at ss
  have ht : timeD l = dayD l * 86400 + (v17 * 3600 + v20 * 60 + v23) := by unfold timeD; rw [e17, e20, e23]
  have hd : dayD l = daysV v12 (monI (cutD l 8 11)) v5 := by unfold dayD; rw [e12, e5]
  rw [ht]
  rcases days_cases v12 (monI (cutD l 8 11)) v5 with ⟨y, m, d, rfl, hm, rfl, hD, hV⟩ | ⟨_, hV⟩
  · rw [hd, hV] at wk
    rw [hd, hV]
    obtain ⟨a0, a1, a2, a3, a4, a5, a6, a7, a8, a9, a10, a11, a12, a13, a14, a15, a16, a17, a18, a19, a20, a21, a22, a23, a24, a25, a26, a27, a28, rfl⟩ := cells29 len
    obtain ⟨z5, q5, r5, s5⟩ := two_back n5
    obtain ⟨z12, q12, r12, s12⟩ := four_back n12
    obtain ⟨z17, rfl, r17, s17⟩ := two_back n17
    obtain ⟨z20, rfl, r20, s20⟩ := two_back n20
    obtain ⟨z23, rfl, r23, s23⟩ := two_back n23
    obtain rfl : d = z5 := by omega
    obtain rfl : y = z12 := by omega
    refine ⟨dayN y m d, z17 * 3600 + z20 * 60 + z23, y, m, d, by omega, by omega, ⟨hD, rfl⟩, ?_⟩
    have hmon : [a8, a9, a10] = monL m := by
      rcases mon_cases [a8, a9, a10] with ⟨k, k1, k2, k3, k4⟩ | ⟨_, k4⟩
      · have : monI [a8, a9, a10] = m := by exact_mod_cast hm
        rw [k3, ← this, k4]
      · exfalso
        have : monI [a8, a9, a10] = m := by exact_mod_cast hm
        have := hD.2.1.1
        omega
    have e1 : [a0, a1, a2] = wkL (dayN y m d % 7) := wk.symm
    have e3 : [a3, a4] = [44, 32] := c3
    have e7 : a7 = 32 := c7
    have e11 : a11 = 32 := c11
    have e16 : a16 = 32 := c16
    have e19 : a19 = 58 := c19
    have e22 : a22 = 58 := c22
    have e25 : [a25, a26, a27, a28] = [32, 71, 77, 84] := c25
    unfold dateL clkL
    rw [show (z17 * 3600 + z20 * 60 + z23) / 3600 = z17 from by omega, show (z17 * 3600 + z20 * 60 + z23) / 60 % 60 = z20 from by omega, show (z17 * 3600 + z20 * 60 + z23) % 60 = z23 from by omega,
      ← e1, ← s5, ← s12, ← s17, ← s20, ← s23, ← hmon, ← e3, ← e25, e7, e11, e16, e19, e22]
    rfl
  · exfalso; rw [hd, hV] at day; omega
theorem text_good {t : Int} {l : List UInt8} (h : TextOf t l) : GoodD l ∧ timeD l = t := by
  have hlen := text_len h
  obtain ⟨n, s, y, m, d, rfl, hs, hc, rfl⟩ := h
  obtain ⟨a, b, c, hw⟩ := wk_three (Nat.mod_lt n (by omega : 0 < 7))
  obtain ⟨p, q, r, hm⟩ := mon_three hc.1.2.1.1 hc.1.2.1.2
  have hl : dateL y m d n s = [a, b, c, 44, 32, digB (d / 10), digB d, 32, p, q, r, 32, digB (y / 1000), digB (y / 100), digB (y / 10), digB y, 32, digB (s / 3600 / 10), digB (s / 3600), 58, digB (s / 60 % 60 / 10), digB (s / 60 % 60), 58, digB (s % 60 / 10), digB (s % 60), 32, 71, 77, 84] := by
    unfold dateL clkL twoL fourL; rw [hw, hm]; rfl
  have hd31 := (len_le (leapN y) hc.1.2.1.1 hc.1.2.1.2).1
  have hdd := hc.1.2.2
  have hyy := hc.1.1
  have n5 : numL (cutD (dateL y m d n s) 5 7) = some (d : Int) := by rw [hl]; exact num_twoL (n := d) (by omega)
  have n12 : numL (cutD (dateL y m d n s) 12 16) = some (y : Int) := by rw [hl]; exact num_fourL (n := y) (by omega)
  have n17 : numL (cutD (dateL y m d n s) 17 19) = some ((s / 3600 : Nat) : Int) := by rw [hl]; exact num_twoL (n := s / 3600) (by omega)
  have n20 : numL (cutD (dateL y m d n s) 20 22) = some ((s / 60 % 60 : Nat) : Int) := by rw [hl]; exact num_twoL (n := s / 60 % 60) (by omega)
  have n23 : numL (cutD (dateL y m d n s) 23 25) = some ((s % 60 : Nat) : Int) := by rw [hl]; exact num_twoL (n := s % 60) (by omega)
  have hmo : monI (cutD (dateL y m d n s) 8 11) = m := by
    rw [hl, show cutD [a, b, c, 44, 32, digB (d / 10), digB d, 32, p, q, r, 32, digB (y / 1000), digB (y / 100), digB (y / 10), digB y, 32, digB (s / 3600 / 10), digB (s / 3600), 58, digB (s / 60 % 60 / 10), digB (s / 60 % 60), 58, digB (s % 60 / 10), digB (s % 60), 32, 71, 77, 84] 8 11 = [p, q, r] from rfl, ← hm]
    exact mon_back hc.1.2.1.1 hc.1.2.1.2
  have hday : dayD (dateL y m d n s) = (n : Int) := by
    unfold dayD
    rw [nmD_of n12, nmD_of n5, hmo, days_yes hc.1, hc.2]
  refine ⟨⟨hlen, by rw [hl]; rfl, by rw [hl]; rfl, by rw [hl]; rfl, by rw [hl]; rfl, by rw [hl]; rfl, by rw [hl]; rfl, by rw [hl]; rfl, ⟨_, n5⟩, ⟨_, n12⟩, ⟨_, n17⟩, ⟨_, n20⟩, ⟨_, n23⟩, by rw [hday]; omega, by rw [nmD_of n17]; omega, by rw [nmD_of n20]; omega, by rw [nmD_of n23]; omega, ?_⟩, ?_⟩
  · rw [hday, show ((n : Int)).toNat = n from rfl, hw, hl]; rfl
  · unfold timeD
    rw [hday, nmD_of n17, nmD_of n20, nmD_of n23]
    omega
/-- what Parse returns -/
noncomputable def prsD (l : List UInt8) : Option Int := by classical exact if GoodD l then some (timeD l) else none
theorem prs_yes {l : List UInt8} (h : GoodD l) : prsD l = some (timeD l) := by unfold prsD; rw [if_pos h]
theorem prs_no {l : List UInt8} (h : ¬ GoodD l) : prsD l = none := by unfold prsD; rw [if_neg h]
/-- the program's way: the time is read, and its text compared -/
theorem prs_fmt {l x : List UInt8} (hl : l.length = 29) (h : FmtIs (timeD l) x) : prsD l = if x = l then some (timeD l) else none := by
  by_cases e : x = l
  · rw [if_pos e]
    subst e
    rcases h with h | ⟨_, rfl⟩
    · exact prs_yes (text_good h).1
    · cases hl
  · rw [if_neg e]
    refine prs_no fun g => e ?_
    rcases h with h | ⟨h, rfl⟩
    · exact text_uniq h (good_text g)
    · have := text_range20 (good_text g); omega
theorem nm_bd (l : List UInt8) (a b : Nat) : 0 ≤ nmD l a b ∧ nmD l a b ≤ 2147483647 := by
  have hb : ∀ l : List UInt8, (∀ c ∈ l, digitI c.toNat = true) → ∀ v : Int, 0 ≤ v ∧ v ≤ 2147483647 → 0 ≤ l.foldl (fun n c => satI n ((c.toNat : Int) - 48)) v ∧ l.foldl (fun n c => satI n ((c.toNat : Int) - 48)) v ≤ 2147483647 := by
    intro l
    induction l with
    | nil => intro _ v h; exact h
    | cons c l ih =>
      intro hd v h
      have h1 := digitI_bd (hd c (by simp))
      exact ih (fun x hx => hd x (by simp [hx])) _ (satI_bd h.1 (by omega))
  unfold nmD numL
  split
  · rename_i hd
    exact hb _ (fun c hc => List.all_eq_true.mp hd.1 c hc) 0 ⟨by omega, by omega⟩
  · exact ⟨by show (0 : Int) ≤ 0; omega, by show (0 : Int) ≤ 2147483647; omega⟩
theorem day_bd (l : List UInt8) : -1 ≤ dayD l ∧ dayD l ≤ 2932896 := by
  unfold dayD
  rcases days_cases (nmD l 12 16) (monI (cutD l 8 11)) (nmD l 5 7) with ⟨y, m, d, _, _, _, hD, hV⟩ | ⟨_, hV⟩
  · rw [hV]
    have := cal_lt (n := dayN y m d) (y := y) (m := m) (d := d) ⟨hD, rfl⟩
    omega
  · rw [hV]; omega
theorem prs_nil : prsD [] = none := prs_no fun g => by have := g.len; cases this
end
section
def valF (v : Int) (l : List UInt8) : Int := l.foldl (fun v c => v * 10 + ((c.toNat : Int) - 48)) v
theorem sat_min (v d : Int) (h0 : 0 ≤ v) (h1 : 0 ≤ d) : satI (min v 2147483647) d = min (v * 10 + d) 2147483647 := by
  unfold satI; split <;> omega
theorem numF_val (l : List UInt8) (h : allI digitI l = true) : ∀ v : Int, 0 ≤ v → l.foldl (fun v c => satI v ((c.toNat : Int) - 48)) (min v 2147483647) = min (valF v l) 2147483647 := by
  induction l with
  | nil => intro v _; rfl
  | cons c l ih =>
    intro v hv
    have hc : digitI c.toNat = true ∧ allI digitI l = true := by simpa [allI] using h
    have hd := digitI_bd hc.1
    simp only [List.foldl_cons, valF]
    rw [sat_min v _ hv (by omega)]
    exact ih hc.2 _ (by omega)
theorem numF_eq (l : List UInt8) (h : allI digitI l = true) : numF l = min (valF 0 l) 2147483647 := numF_val l h 0 (Int.le_refl _)
theorem trim_split (l : List UInt8) : ∃ a b, l = a ++ (trimL l ++ b) ∧ (∀ c ∈ a, blankB c = true) ∧ (∀ c ∈ b, blankB c = true) ∧ (∀ c r, trimL l = c :: r → blankB c = false) ∧ (∀ c r, trimL l = r ++ [c] → blankB c = false) := by
  obtain ⟨k, e, ht⟩ := ex_trim l
  have hT := trim_at ht
  obtain ⟨h1, h2, h3, h4, h5, h6⟩ := ht
  have hlen : (trimL l).length = e - k := by rw [hT]; simp only [List.length_drop, List.length_take]; omega
  have hm : ∀ j, j < e - k → (trimL l).getD j 0 = l.getD (k + j) 0 := by
    intro j hj
    rw [hT]
    simp only [List.getD_eq_getElem?_getD, List.getElem?_drop]
    rw [List.getElem?_take_of_lt (by omega)]
  refine ⟨l.take k, l.drop e, ?_, ?_, ?_, ?_, ?_⟩
  · have e1 : (l.take e).take k = l.take k := by rw [List.take_take, Nat.min_eq_left h1]
    rw [hT, ← List.append_assoc]
    conv => lhs; rw [← List.take_append_drop e l, ← List.take_append_drop k (l.take e), e1]
  · intro c hc
    obtain ⟨j, hj, rfl⟩ := getD_mem hc
    rw [List.length_take] at hj
    have := h3 j (by omega)
    simpa [List.getD_eq_getElem?_getD, List.getElem?_take_of_lt (show j < k by omega)] using this
  · intro c hc
    obtain ⟨j, hj, rfl⟩ := getD_mem hc
    rw [List.length_drop] at hj
    have := h4 (e + j) (by omega) (by omega)
    simpa [List.getD_eq_getElem?_getD, List.getElem?_drop] using this
  · intro c r hcr
    have hpos : 0 < e - k := by rw [← hlen, hcr]; simp
    have := hm 0 hpos
    rw [hcr] at this
    have e2 : c = l.getD k 0 := by simpa using this
    rw [e2]; exact h5 (by omega)
  · intro c r hcr
    have hr : e - k = r.length + 1 := by rw [← hlen, hcr]; simp
    have := hm r.length (by omega)
    rw [hcr] at this
    have e2 : c = l.getD (k + r.length) 0 := by simpa [List.getD_eq_getElem?_getD] using this
    rw [e2, show k + r.length = e - 1 by omega]; exact h6 (by omega)
end
section
theorem trim_le (l : List UInt8) : (trimL l).length ≤ l.length := by
  obtain ⟨a, b, h, _⟩ := trim_split l
  have := congrArg List.length h
  simp at this; omega
end
end Go.Proofs.YtiogngfemelifaaDoor.Asc
