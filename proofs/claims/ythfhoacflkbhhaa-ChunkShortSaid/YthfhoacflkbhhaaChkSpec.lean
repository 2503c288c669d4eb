/- Plain functions on lists of bytes: lines, chunks, what they are read as and how they are written. No program is named here. -/
import Derived.Test.YthfhoacflkbhhaaFieSpec
import Derived.Test.YthfhoacflkbhhaaTarSpec
set_option linter.unusedVariables false
set_option linter.unusedSimpArgs false
namespace Go.Proofs.Ythfhoacflkbhhaa.Asc

def eolB (c : UInt8) : Bool := c != 13 && c != 10
/-- the next line and what follows it, or an error -/
def nextL (l : List UInt8) : Int ⊕ (List UInt8 × List UInt8) :=
  if 2000 < (l.takeWhile eolB).length then .inl 4
  else match l.dropWhile eolB with
    | [] => .inl 2
    | [c] => if c = 10 then .inl 1 else .inl 2
    | c :: d :: r => if c = 10 then .inl 1 else if d = 10 then .inr (l.takeWhile eolB, r) else .inl 1
theorem while_all {p : UInt8 → Bool} {t r : List UInt8} (h : ∀ c ∈ t, p c = true) (hr : r = [] ∨ ∃ c s, r = c :: s ∧ p c = false) : (t ++ r).takeWhile p = t ∧ (t ++ r).dropWhile p = r := by
  rcases hr with rfl | ⟨c, s, rfl, hc⟩
  · rw [List.takeWhile_append_of_pos h, List.dropWhile_append_of_pos h]; simp
  · rw [List.takeWhile_append_of_pos h, List.dropWhile_append_of_pos h, List.takeWhile_cons, List.dropWhile_cons, hc]; simp
theorem next_ok {t r : List UInt8} (h : ∀ c ∈ t, eolB c = true) (hl : t.length ≤ 2000) : nextL (t ++ 13 :: 10 :: r) = .inr (t, r) := by
  obtain ⟨h1, h2⟩ := while_all (r := 13 :: 10 :: r) h (.inr ⟨_, _, rfl, by decide⟩)
  unfold nextL
  rw [h1, h2, if_neg (by omega)]
  simp
theorem next_short {t : List UInt8} (h : ∀ c ∈ t, eolB c = true) (hl : t.length ≤ 2000) : nextL t = .inl 2 := by
  obtain ⟨h1, h2⟩ := while_all (r := []) h (.inl rfl)
  rw [List.append_nil] at h1 h2
  unfold nextL
  rw [h1, h2, if_neg (by omega)]
theorem next_cr {t : List UInt8} (h : ∀ c ∈ t, eolB c = true) (hl : t.length ≤ 2000) : nextL (t ++ [13]) = .inl 2 := by
  obtain ⟨h1, h2⟩ := while_all (r := [13]) h (.inr ⟨_, _, rfl, by decide⟩)
  unfold nextL
  rw [h1, h2, if_neg (by omega)]
  simp
theorem next_line {l t r : List UInt8} (h : nextL l = .inr (t, r)) : l = t ++ 13 :: 10 :: r ∧ t = l.takeWhile eolB ∧ t.length ≤ 2000 := by
  unfold nextL at h
  split at h
  · cases h
  · rename_i hl
    split at h
    · cases h
    · split at h <;> cases h
    · rename_i c d s hd
      split at h
      · cases h
      · rename_i hc
        split at h
        · rename_i hd10
          cases h
          have e := List.takeWhile_append_dropWhile (p := eolB) (l := l)
          have hcr : eolB c = false := by
            have := List.head?_dropWhile_not (p := eolB) (l := l)
            rw [hd] at this; simpa using this
          have hc13 : c = 13 := by
            unfold eolB at hcr
            rw [Bool.and_eq_false_iff] at hcr
            rcases hcr with q | q
            · simpa using q
            · exact absurd (by simpa using q) hc
          refine ⟨?_, rfl, by omega⟩
          rw [hd, hc13, hd10] at e
          exact e.symm
        · cases h
/-- the number of hexadecimal digits; the size that a line gives -/
def hexN (l : List UInt8) : Nat := l.foldl (fun n c => n * 16 + (hexI c.toNat).toNat) 0
def sizeOk (l : List UInt8) : Bool := decide (1 ≤ (l.takeWhile hexB).length ∧ (l.takeWhile hexB).length ≤ 8) && ((l.dropWhile hexB).isEmpty || decide ((l.dropWhile hexB).head? = some 59)) && textL (l.dropWhile hexB)
def sizeL (l : List UInt8) : Option Nat := if sizeOk l = true then some (hexN (l.takeWhile hexB)) else none
/-- one chunk: an error, the last one and what follows it, or its bytes and what follows it -/
inductive Chunk where
  | bad (e : Int)
  | last (r : List UInt8)
  | data (d r : List UInt8)
def chunkL (body l : List UInt8) : Chunk := match nextL l with
  | .inl e => .bad e
  | .inr (t, r) => match sizeL t with
    | none => .bad 1
    | some n =>
      if 100000 < n + body.length then .bad 5
      else if n = 0 then .last r
      else if r.length < n then .bad 2
      else if r.drop n = [] ∨ r.drop n = [13] then .bad 2
      else if (r.drop n).take 2 = [13, 10] then .data (r.take n) (r.drop (n + 2)) else .bad 1
def chunksF : Nat → List UInt8 → List UInt8 → Int ⊕ (List UInt8 × List UInt8)
  | 0, _, _ => .inl 0
  | f + 1, body, l => match chunkL body l with
    | .bad e => .inl e
    | .last r => .inr (body, r)
    | .data d r => chunksF f (body ++ d) r
/-- the lines behind the content -/
def trailF : Nat → Nat → List UInt8 → Int ⊕ List UInt8
  | 0, _, _ => .inl 0
  | f + 1, k, l => match nextL l with
    | .inl e => .inl e
    | .inr (t, r) => if t = [] then .inr r else if k = 64 then .inl 4 else if (fieldL t).2.2 ≠ 0 then .inl (fieldL t).2.2 else trailF f (k + 1) r
def decS (f : Nat) (body l : List UInt8) : Int ⊕ (List UInt8 × List UInt8) := match chunksF f body l with
  | .inl e => .inl e
  | .inr (b, r) => match trailF 66 0 r with
    | .inl e => .inl e
    | .inr r2 => .inr (b, r2)
/-- content, length, error -/
def decT (n : Nat) : Int ⊕ (List UInt8 × List UInt8) → List UInt8 × Int × Int
  | .inl e => ([], 0, e)
  | .inr (b, r) => (b, (n : Int) - r.length, 0)
def decodeL (l : List UInt8) : List UInt8 × Int × Int := decT l.length (decS (l.length + 1) [] l)

def lowD : List UInt8 := [48, 49, 50, 51, 52, 53, 54, 55, 56, 57, 97, 98, 99, 100, 101, 102]
def hexF : Nat → Nat → List UInt8 → List UInt8
  | 0, _, acc => acc
  | f + 1, n, acc => if n = 0 then acc else hexF f (n / 16) (lowD.getD (n % 16) 0 :: acc)
def hexL (n : Nat) : List UInt8 := hexF n n []
def chunkT (d : List UInt8) : List UInt8 := hexL d.length ++ 13 :: 10 :: (d ++ [13, 10])
def encF : Nat → Nat → List UInt8 → List UInt8
  | 0, _, _ => []
  | f + 1, z, b => if b = [] then [] else chunkT (b.take (min z b.length)) ++ encF f z (b.drop (min z b.length))
def endT : List UInt8 := [48, 13, 10, 13, 10]
def encodeL (b : List UInt8) (z : Int) : List UInt8 := encF b.length (if z < 1 then b.length else z.toNat) b ++ endT

theorem lowD_hex : ∀ x : Fin 16, hexB (lowD.getD x.1 0) = true ∧ (hexI (lowD.getD x.1 0).toNat).toNat = x.1 := by decide +kernel
theorem hexN_app (a b : List UInt8) : hexN (a ++ b) = hexN a * 16 ^ b.length + hexN b := by
  induction b generalizing a with
  | nil => simp [hexN]
  | cons c b ih =>
    have h1 : a ++ c :: b = (a ++ [c]) ++ b := by simp
    have h2 := ih [c]
    have e1 : hexN (a ++ [c]) = hexN a * 16 + (hexI c.toNat).toNat := by unfold hexN; rw [List.foldl_append]; rfl
    have e2 : hexN [c] = (hexI c.toNat).toNat := by simp [hexN]
    rw [e2] at h2
    rw [h1, ih, e1, show c :: b = [c] ++ b from rfl, h2]
    simp only [List.length_append, List.length_cons, List.length_nil]
    rw [Nat.pow_add, Nat.add_mul, Nat.mul_assoc]
    simp
    omega
theorem hexF_all : ∀ (f n : Nat) (acc : List UInt8), (∀ c ∈ acc, hexB c = true) → ∀ c ∈ hexF f n acc, hexB c = true
  | 0, n, acc, h => h
  | f + 1, n, acc, h => by
    unfold hexF
    split
    · exact h
    · refine hexF_all f (n / 16) _ fun c hc => ?_
      rcases List.mem_cons.mp hc with e | e
      · rw [e]; exact (lowD_hex ⟨n % 16, Nat.mod_lt _ (by omega)⟩).1
      · exact h c e
theorem hexF_num : ∀ (f n : Nat) (acc : List UInt8), n ≤ f → hexN (hexF f n acc) = n * 16 ^ acc.length + hexN acc
  | 0, n, acc, h => by
    have : n = 0 := by omega
    subst this; simp [hexF]
  | f + 1, n, acc, h => by
    unfold hexF
    split
    · rename_i e; subst e; simp
    · rename_i hn
      rw [hexF_num f (n / 16) _ (by omega)]
      have h1 : hexN (lowD.getD (n % 16) 0 :: acc) = (n % 16) * 16 ^ acc.length + hexN acc := by
        have := hexN_app [lowD.getD (n % 16) 0] acc
        have e2 : hexN [lowD.getD (n % 16) 0] = n % 16 := by
          have := (lowD_hex ⟨n % 16, Nat.mod_lt _ (by omega)⟩).2
          simpa [hexN] using this
        rw [e2] at this; exact this
      rw [h1, List.length_cons, Nat.pow_succ, Nat.mul_comm (16 ^ acc.length) 16, ← Nat.mul_assoc, ← Nat.add_assoc, ← Nat.add_mul]
      congr 2
      omega
theorem hexF_len : ∀ (f n : Nat) (acc : List UInt8) (k : Nat), n < 16 ^ k → (hexF f n acc).length ≤ acc.length + k
  | 0, n, acc, k, h => by simp [hexF]
  | f + 1, n, acc, k, h => by
    unfold hexF
    split
    · omega
    · rename_i hn
      match k, h with
      | 0, h => simp at h; omega
      | k + 1, h =>
        have := hexF_len f (n / 16) (lowD.getD (n % 16) 0 :: acc) k (by rw [Nat.pow_succ] at h; omega)
        simp only [List.length_cons] at this; omega
theorem hexF_more : ∀ (f n : Nat) (acc : List UInt8), acc.length ≤ (hexF f n acc).length
  | 0, n, acc => Nat.le_refl _
  | f + 1, n, acc => by
    unfold hexF
    split
    · exact Nat.le_refl _
    · have := hexF_more f (n / 16) (lowD.getD (n % 16) 0 :: acc)
      simp only [List.length_cons] at this; omega
theorem hexL_facts {n : Nat} (h0 : 0 < n) (k : Nat) (h : n < 16 ^ k) : (∀ c ∈ hexL n, hexB c = true) ∧ hexN (hexL n) = n ∧ 1 ≤ (hexL n).length ∧ (hexL n).length ≤ k := by
  refine ⟨hexF_all n n [] (by simp), ?_, ?_, ?_⟩
  · unfold hexL; rw [hexF_num n n [] (Nat.le_refl _)]; simp [hexN]
  · unfold hexL
    match n, h0 with
    | m + 1, _ =>
      unfold hexF
      rw [if_neg (by omega)]
      exact Nat.le_trans (by simp) (hexF_more m _ _)
  · have := hexF_len n n [] k h
    simpa [hexL] using this
theorem hex_eol {c : UInt8} (h : hexB c = true) : eolB c = true := by
  have key : ∀ x : Fin 256, hexB (UInt8.ofNat x.1) = true → eolB (UInt8.ofNat x.1) = true := by decide +kernel
  have := key ⟨c.toNat, c.toNat_lt⟩
  simp at this; exact this h
theorem text_eol {c : UInt8} (h : textI c.toNat = true) : eolB c = true := by
  have key : ∀ x : Fin 256, textI (x.1 : Nat) = true → eolB (UInt8.ofNat x.1) = true := by decide +kernel
  have := key ⟨c.toNat, c.toNat_lt⟩ h
  simpa using this
/-- a line that gives a size: digits, and an extension -/
theorem size_line {d x : List UInt8} (hd : ∀ c ∈ d, hexB c = true) (h1 : 1 ≤ d.length) (h8 : d.length ≤ 8) (hx : textL x = true) : sizeL (d ++ 59 :: x) = some (hexN d) := by
  obtain ⟨e1, e2⟩ := while_all (r := 59 :: x) hd (.inr ⟨_, _, rfl, by decide⟩)
  have ht : textL (59 :: x) = true := by
    unfold textL allI at hx ⊢
    rw [List.all_cons, hx]; rfl
  unfold sizeL sizeOk
  rw [e1, e2, ht]
  simp [h1, h8]
theorem size_plain {d : List UInt8} (hd : ∀ c ∈ d, hexB c = true) (h1 : 1 ≤ d.length) (h8 : d.length ≤ 8) : sizeL d = some (hexN d) := by
  obtain ⟨e1, e2⟩ := while_all (r := []) hd (.inl rfl)
  rw [List.append_nil] at e1 e2
  unfold sizeL sizeOk
  rw [e1, e2]
  simp [h1, h8, textL, allI]
theorem chunks_bad {f : Nat} {body l : List UInt8} {e : Int} (h : chunkL body l = .bad e) : chunksF (f + 1) body l = .inl e := by simp only [chunksF, h]
theorem chunks_last {f : Nat} {body l r : List UInt8} (h : chunkL body l = .last r) : chunksF (f + 1) body l = .inr (body, r) := by simp only [chunksF, h]
theorem chunks_data {f : Nat} {body l d r : List UInt8} (h : chunkL body l = .data d r) : chunksF (f + 1) body l = chunksF f (body ++ d) r := by simp only [chunksF, h]
theorem trail_bad {f k : Nat} {l : List UInt8} {e : Int} (h : nextL l = .inl e) : trailF (f + 1) k l = .inl e := by simp only [trailF, h]
theorem trail_done {f k : Nat} {l r : List UInt8} (h : nextL l = .inr ([], r)) : trailF (f + 1) k l = .inr r := by simp only [trailF, h, if_true]
theorem trail_many {f : Nat} {l t r : List UInt8} (h : nextL l = .inr (t, r)) (ht : t ≠ []) : trailF (f + 1) 64 l = .inl 4 := by simp only [trailF, h]; rw [if_neg ht]; simp
theorem trail_field {f k : Nat} {l t r : List UInt8} (h : nextL l = .inr (t, r)) (ht : t ≠ []) (hk : k ≠ 64) (he : (fieldL t).2.2 ≠ 0) : trailF (f + 1) k l = .inl (fieldL t).2.2 := by simp only [trailF, h]; rw [if_neg ht, if_neg hk, if_pos he]
theorem trail_next {f k : Nat} {l t r : List UInt8} (h : nextL l = .inr (t, r)) (ht : t ≠ []) (hk : k ≠ 64) (he : (fieldL t).2.2 = 0) : trailF (f + 1) k l = trailF f (k + 1) r := by simp only [trailF, h]; rw [if_neg ht, if_neg hk, if_neg (by rw [he]; simp)]
theorem chunk_end (body more : List UInt8) (hb : body.length ≤ 100000) : chunkL body (48 :: 13 :: 10 :: more) = .last more := by
  have h := next_ok (t := [48]) (r := more) (by decide) (by decide)
  unfold chunkL
  rw [show (48 : UInt8) :: 13 :: 10 :: more = [48] ++ 13 :: 10 :: more from rfl, h]
  have hs : sizeL [48] = some 0 := by decide
  simp only [hs]
  rw [if_neg (by omega)]; simp
theorem chunk_data {body d more : List UInt8} {t : List UInt8} (ht : ∀ c ∈ t, eolB c = true) (htl : t.length ≤ 2000) (hs : sizeL t = some d.length) (h0 : 0 < d.length) (hb : d.length + body.length ≤ 100000) :
    chunkL body (t ++ 13 :: 10 :: (d ++ 13 :: 10 :: more)) = .data d more := by
  have h := next_ok (r := d ++ 13 :: 10 :: more) ht htl
  unfold chunkL
  rw [h]
  simp only [hs]
  have hdr : (d ++ 13 :: 10 :: more).drop d.length = 13 :: 10 :: more := by simp
  have hdr2 : (d ++ 13 :: 10 :: more).drop (d.length + 2) = more := by rw [← List.drop_drop, hdr]; rfl
  rw [if_neg (by omega), if_neg (by omega), if_neg (by simp), hdr, hdr2, if_neg (by simp), if_pos (by simp)]
  simp
theorem chunkT_app (d more : List UInt8) : chunkT d ++ more = hexL d.length ++ 13 :: 10 :: (d ++ 13 :: 10 :: more) := by simp [chunkT]
theorem chunkT_read {body d more : List UInt8} (h0 : 0 < d.length) (hb : d.length + body.length ≤ 100000) : chunkL body (chunkT d ++ more) = .data d more := by
  obtain ⟨h1, h2, h3, h4⟩ := hexL_facts h0 5 (Nat.lt_of_lt_of_le (by omega : d.length < 1048576) (by decide))
  rw [chunkT_app]
  refine chunk_data (fun c hc => hex_eol (h1 c hc)) (by omega) ?_ h0 hb
  rw [size_plain h1 h3 (by omega), h2]
theorem chunkT_pos (d : List UInt8) : 4 ≤ (chunkT d).length := by unfold chunkT; simp; omega
/-- what has been written is read -/
theorem chunks_back : ∀ (g z : Nat) (b body more : List UInt8) (f : Nat), 1 ≤ z → b.length ≤ g → b.length + body.length ≤ 100000 → (encF g z b ++ 48 :: 13 :: 10 :: more).length < f →
    chunksF f body (encF g z b ++ 48 :: 13 :: 10 :: more) = .inr (body ++ b, more)
  | 0, z, b, body, more, f, hz, hg, hb, hf => by
    have e : b = [] := by cases b <;> simp at hg ⊢
    subst e
    match f, hf with
    | f + 1, _ =>
      have e0 : encF 0 z ([] : List UInt8) = [] := rfl
      rw [e0, List.nil_append, chunks_last (chunk_end body more (by omega)), List.append_nil]
  | g + 1, z, b, body, more, f, hz, hg, hb, hf => by
    match f, hf with
    | f + 1, hf =>
      by_cases hbn : b = []
      · subst hbn
        have e0 : encF (g + 1) z ([] : List UInt8) = [] := by unfold encF; rw [if_pos rfl]
        rw [e0, List.nil_append, chunks_last (chunk_end body more (by omega)), List.append_nil]
      · have hpos : 0 < b.length := List.length_pos_iff.mpr hbn
        have e1 : encF (g + 1) z b = chunkT (b.take (min z b.length)) ++ encF g z (b.drop (min z b.length)) := by
          conv => lhs; unfold encF
          rw [if_neg hbn]
        rw [e1, List.append_assoc] at hf ⊢
        have hl : (b.take (min z b.length)).length = min z b.length := by rw [List.length_take]; omega
        have hc := chunkT_read (body := body) (d := b.take (min z b.length)) (more := encF g z (b.drop (min z b.length)) ++ 48 :: 13 :: 10 :: more) (by omega) (by omega)
        have hp := chunkT_pos (b.take (min z b.length))
        rw [chunks_data hc]
        rw [chunks_back g z (b.drop (min z b.length)) _ more f hz (by rw [List.length_drop]; omega) (by rw [List.length_append, List.length_drop, hl]; omega) (by rw [List.length_append] at hf; omega)]
        rw [List.append_assoc, List.take_append_drop]
theorem trail_end (more : List UInt8) (f k : Nat) : trailF (f + 1) k (13 :: 10 :: more) = .inr more := by
  exact trail_done (next_ok (t := []) (r := more) (by simp) (by simp))
theorem decode_back {b more : List UInt8} {z : Int} (hb : b.length ≤ 100000) : decodeL (encodeL b z ++ more) = (b, ((encodeL b z).length : Int), 0) := by
  by_cases hbn : b = []
  · subst hbn
    have e0 : encodeL ([] : List UInt8) z = endT := by unfold encodeL; rfl
    rw [e0]
    unfold decodeL decS
    have h1 : chunksF ((endT ++ more).length + 1) [] (endT ++ more) = .inr ([], 13 :: 10 :: more) := by
      exact chunks_last (chunk_end [] _ (by simp))
    rw [h1]
    simp only [trail_end, decT]
    refine congrArg _ (congrArg (fun x => (x, (0 : Int))) ?_)
    rw [List.length_append]; omega
  · have hpos : 0 < b.length := List.length_pos_iff.mpr hbn
    obtain ⟨y, hy1, hy⟩ : ∃ y : Nat, 1 ≤ y ∧ (if z < 1 then b.length else z.toNat) = y := by
      refine ⟨_, ?_, rfl⟩
      split <;> omega
    have e0 : encodeL b z ++ more = encF b.length y b ++ 48 :: 13 :: 10 :: (13 :: 10 :: more) := by unfold encodeL; rw [hy]; simp [endT]
    have h1 := chunks_back b.length y b [] (13 :: 10 :: more) ((encodeL b z ++ more).length + 1) hy1 (Nat.le_refl _) (by simpa using hb) (by rw [← e0]; omega)
    unfold decodeL decS
    rw [← e0] at h1
    rw [h1]
    simp only [trail_end, decT, List.nil_append]
    refine congrArg _ (congrArg (fun x => (x, (0 : Int))) ?_)
    rw [List.length_append]; omega

end Go.Proofs.Ythfhoacflkbhhaa.Asc
