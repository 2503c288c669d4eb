/- Merged texts: MsgSpec MsgSpec6 MsgSpec2 MsgSpec4 MsgSpec5 LstMem AscFold. -/
import Derived.Test.YtjabcfabenobiaaM03
import Derived.Test.YtjabcfabenobiaaM05
import Derived.Test.YtjabcfabenobiaaM06
import Derived.BigQuiet
import Derived.Deep.QuietTactic
import Derived.LoopTactic
set_option linter.unusedVariables false
set_option linter.unusedSimpArgs false
set_option maxRecDepth 100000
namespace Go.Proofs.Ytjabcfabenobiaa.Asc
section
def startE (rq : Bool) (t : List UInt8) : Int := if rq = true then (reqL t).2.2.2 else (staL t).2.2.2
/-- a head, line by line: k lines have been read, n bytes; the start line, the fields -/
def headF : Nat → Bool → Nat → List UInt8 → List F → Nat → List UInt8 → Int ⊕ (List UInt8 × List F × Nat × List UInt8)
  | 0, _, _, _, _, _, _ => .inl 0
  | f + 1, rq, k, st, L, n, l => match nextL l with
    | .inl e => .inl e
    | .inr (t, r) =>
      if 16000 < n + t.length + 2 ∨ (64 < k ∧ t ≠ []) then .inl 4
      else if k = 0 then (if startE rq t ≠ 0 then .inl (startE rq t) else headF f rq 1 t L (n + t.length + 2) r)
      else if t = [] then .inr (st, L, n + t.length + 2, r)
      else if (fieldL t).2.2 ≠ 0 then .inl (fieldL t).2.2
      else headF f rq (k + 1) st (L ++ [(bs (fieldL t).1, bs (fieldL t).2.1)]) (n + t.length + 2) r
def headL (rq : Bool) (l : List UInt8) : Int ⊕ (List UInt8 × List F × Nat × List UInt8) := headF 67 rq 0 [] [] 0 l
theorem head_bad {f k n : Nat} {rq : Bool} {st l : List UInt8} {L : List F} {e : Int} (h : nextL l = .inl e) : headF (f + 1) rq k st L n l = .inl e := by simp only [headF, h]
theorem head_long {f k n : Nat} {rq : Bool} {st l t r : List UInt8} {L : List F} (h : nextL l = .inr (t, r)) (hl : 16000 < n + t.length + 2 ∨ (64 < k ∧ t ≠ [])) : headF (f + 1) rq k st L n l = .inl 4 := by
  simp only [headF, h]; rw [if_pos hl]
theorem head_start {f n : Nat} {rq : Bool} {st l t r : List UInt8} {L : List F} (h : nextL l = .inr (t, r)) (hl : ¬ (16000 < n + t.length + 2 ∨ (64 < 0 ∧ t ≠ []))) (he : startE rq t ≠ 0) : headF (f + 1) rq 0 st L n l = .inl (startE rq t) := by
  simp only [headF, h]; rw [if_neg hl, if_pos trivial, if_pos he]
theorem head_first {f n : Nat} {rq : Bool} {st l t r : List UInt8} {L : List F} (h : nextL l = .inr (t, r)) (hl : ¬ (16000 < n + t.length + 2 ∨ (64 < 0 ∧ t ≠ []))) (he : startE rq t = 0) : headF (f + 1) rq 0 st L n l = headF f rq 1 t L (n + t.length + 2) r := by
  simp only [headF, h]; rw [if_neg hl, if_pos trivial, if_neg (by rw [he]; simp)]
theorem head_done {f k n : Nat} {rq : Bool} {st l r : List UInt8} {L : List F} (h : nextL l = .inr ([], r)) (hl : ¬ 16000 < n + 2) (hk : k ≠ 0) : headF (f + 1) rq k st L n l = .inr (st, L, n + 2, r) := by
  simp only [headF, h, List.length_nil, Nat.add_zero]; rw [if_neg (by simp; omega), if_neg hk]; simp
theorem head_field {f k n : Nat} {rq : Bool} {st l t r : List UInt8} {L : List F} (h : nextL l = .inr (t, r)) (hl : ¬ (16000 < n + t.length + 2 ∨ (64 < k ∧ t ≠ []))) (hk : k ≠ 0) (ht : t ≠ []) (he : (fieldL t).2.2 ≠ 0) : headF (f + 1) rq k st L n l = .inl (fieldL t).2.2 := by
  simp only [headF, h]; rw [if_neg hl, if_neg hk, if_neg ht, if_pos he]
theorem head_more {f k n : Nat} {rq : Bool} {st l t r : List UInt8} {L : List F} (h : nextL l = .inr (t, r)) (hl : ¬ (16000 < n + t.length + 2 ∨ (64 < k ∧ t ≠ []))) (hk : k ≠ 0) (ht : t ≠ []) (he : (fieldL t).2.2 = 0) :
    headF (f + 1) rq k st L n l = headF f rq (k + 1) st (L ++ [(bs (fieldL t).1, bs (fieldL t).2.1)]) (n + t.length + 2) r := by
  simp only [headF, h]; rw [if_neg hl, if_neg hk, if_neg ht, if_neg (by rw [he]; simp)]
def teN : ByteArray := ⟨#[84, 114, 97, 110, 115, 102, 101, 114, 45, 69, 110, 99, 111, 100, 105, 110, 103]⟩
def clN : ByteArray := ⟨#[67, 111, 110, 116, 101, 110, 116, 45, 76, 101, 110, 103, 116, 104]⟩
def hostN : ByteArray := ⟨#[72, 111, 115, 116]⟩
def chunkedL : List UInt8 := [99, 104, 117, 110, 107, 101, 100]
def unfrL (L : List F) : List F := remL teN (remL clN L)
/-- how a body is framed: -1 chunked, -2 not at all, or its length; an error -/
def framedL (L : List F) : Int × Int :=
  let te := getL teN L
  let cl := getL clN L
  if 1 < te.length ∨ (te.length = 1 ∧ te.all (fun x => foldL x.data.toList chunkedL) = false) then (0, 7)
  else if (0 < te.length ∧ 0 < cl.length) ∨ 1 < cl.length then (0, 8)
  else if 0 < te.length then (-1, 0)
  else match cl with
    | [] => (-2, 0)
    | x :: _ => match numL x.data.toList with
      | some v => if x.size ≤ 9 then (v, 0) else (0, 8)
      | none => (0, 8)
/-- a body that is framed in a way: its bytes, how many have been read -/
def bodyL (how : Int) (l : List UInt8) : Int ⊕ (List UInt8 × Int) :=
  if how = -1 then (if (decodeL l).2.2 ≠ 0 then .inl (decodeL l).2.2 else .inr ((decodeL l).1, (decodeL l).2.1))
  else if 100000 < how then .inl 5
  else if (l.length : Int) < how then .inl 2
  else .inr (l.take how.toNat, how)
/-- method, target, minor, fields, body; length; error -/
abbrev RQ := List UInt8 × List UInt8 × Int × List F × List UInt8
def zeroRQ : RQ := ([], [], 0, [], [])
def hostE (L : List F) (v : Int) : Bool := decide (1 < (getL hostN L).length ∨ ((getL hostN L).length = 0 ∧ v = 1))
def reqM (l : List UInt8) : RQ × Int × Int := match headL true l with
  | .inl e => (zeroRQ, 0, e)
  | .inr (st, L, n, r) =>
    if (framedL L).2 ≠ 0 then (zeroRQ, 0, (framedL L).2)
    else if hostE L (reqL st).2.2.1 = true then (zeroRQ, 0, 6)
    else match bodyL (if (framedL L).1 = -2 then 0 else (framedL L).1) r with
      | .inl e => (zeroRQ, 0, e)
      | .inr (b, c) => (((reqL st).1, (reqL st).2.1, (reqL st).2.2.1, unfrL L, b), (n : Int) + c, 0)
/-- the lines of fields; a head as it is written -/
def flatL (L : List F) : List UInt8 := L.flatMap fun p => lineL p.1.data.toList p.2.data.toList ++ [13, 10]
def validF (p : F) : Bool := validL p.1.data.toList p.2.data.toList
def clenL (n : Int) : List UInt8 := clN.data.toList ++ [58, 32] ++ decL n ++ [13, 10]
def outL6 (st : List UInt8) (L : List F) (n : Int) (length : Bool) : List UInt8 := st ++ [13, 10] ++ flatL L ++ (if length = true then clenL n else []) ++ [13, 10]
def joinedL (st : List UInt8) (L0 : List F) (b : List UInt8) (length whole : Bool) : List UInt8 :=
  let L := unfrL L0
  if st = [] ∨ 63 < L.length ∨ 100000 < b.length ∨ L.all validF = false then []
  else if 16000 < (outL6 st L b.length length).length then []
  else outL6 st L b.length length ++ (if whole = true then b else [])
def lengthB (m b : List UInt8) : Bool := !b.isEmpty || m == [80, 79, 83, 84] || m == [80, 85, 84] || m == [80, 65, 84, 67, 72]
def fmtRQ (q : RQ) : List UInt8 := joinedL (fmtReqL q.1 q.2.1 q.2.2.1) q.2.2.2.1 q.2.2.2.2 (lengthB q.1 q.2.2.2.2) true
theorem flat_cons (p : F) (L : List F) (more : List UInt8) : flatL (p :: L) ++ more = lineL p.1.data.toList p.2.data.toList ++ 13 :: 10 :: (flatL L ++ more) := by simp [flatL]
theorem flat_len (p : F) (L : List F) : (flatL (p :: L)).length = (lineL p.1.data.toList p.2.data.toList).length + 2 + (flatL L).length := by simp [flatL]; omega
theorem line_next {p : F} (h : validF p = true) (r : List UInt8) : nextL (lineL p.1.data.toList p.2.data.toList ++ 13 :: 10 :: r) = .inr (lineL p.1.data.toList p.2.data.toList, r) ∧ lineL p.1.data.toList p.2.data.toList ≠ [] ∧ fieldL (lineL p.1.data.toList p.2.data.toList) = (p.1.data.toList, p.2.data.toList, 0) := by
  obtain ⟨h1, h2⟩ := line_eol h
  refine ⟨next_ok h1 (by rw [lineN_eq]; exact (valid_parts h).2.2.2), h2, field_back h⟩
/-- the fields of a head, as they are written, are read -/
theorem head_fields : ∀ (L : List F) (f k n : Nat) (rq : Bool) (st : List UInt8) (acc : List F) (more : List UInt8), (∀ p ∈ L, validF p = true) → 1 ≤ k → k + L.length ≤ 65 → n + (flatL L).length ≤ 16000 →
    headF (f + L.length) rq k st acc n (flatL L ++ more) = headF f rq (k + L.length) st (acc ++ L) (n + (flatL L).length) more
  | [], f, k, n, rq, st, acc, more, _, _, _, _ => by simp [flatL]
  | p :: L, f, k, n, rq, st, acc, more, hv, hk, hkl, hn => by
    obtain ⟨h1, h2, h3⟩ := line_next (hv p (by simp)) (flatL L ++ more)
    rw [flat_len] at hn
    rw [flat_cons]
    show headF (f + L.length + 1) rq k st acc n _ = _
    rw [head_more h1 (by simp only [List.length_cons] at hkl; omega) (by omega) h2 (by rw [h3]), h3]
    have hp : (bs p.1.data.toList, bs p.2.data.toList) = p := rfl
    rw [hp, head_fields L f (k + 1) _ rq st (acc ++ [p]) more (fun q hq => hv q (by simp [hq])) (by omega) (by simp only [List.length_cons] at hkl; omega) (by omega)]
    rw [flat_len, List.append_assoc, List.length_cons]
    congr 1
    · omega
    · omega
theorem end_next (more : List UInt8) : nextL (13 :: 10 :: more) = .inr ([], more) := next_ok (t := []) (r := more) (by simp) (by simp)
/-- a head as it is written is read -/
theorem head_read {rq : Bool} {st more : List UInt8} {L : List F} (hs : ∀ c ∈ st, eolB c = true) (hsl : st.length ≤ 2000) (he : startE rq st = 0) (hv : ∀ p ∈ L, validF p = true) (hL : L.length ≤ 64) (hn : st.length + 2 + (flatL L).length + 2 ≤ 16000) :
    headL rq (st ++ 13 :: 10 :: (flatL L ++ 13 :: 10 :: more)) = .inr (st, L, st.length + 2 + (flatL L).length + 2, more) := by
  unfold headL
  rw [head_first (next_ok hs hsl) (by simp; omega) he]
  obtain ⟨g, hg⟩ : ∃ g, 66 = (g + 1) + L.length := ⟨65 - L.length, by omega⟩
  rw [show (66 : Nat) = (g + 1) + L.length from hg, head_fields L (g + 1) 1 _ rq st [] _ hv (by omega) (by omega) (by simp; omega), List.nil_append]
  rw [head_done (end_next more) (by omega) (by omega)]
  simp
end
section
theorem cut_le (c : UInt8) (l : List UInt8) : (cut1 c l).length ≤ l.length ∧ (cut2 c l).length ≤ l.length := by
  constructor
  · unfold cut1; exact (List.takeWhile_sublist _).length_le
  · unfold cut2; rw [List.length_drop]; have := (List.dropWhile_sublist (l := l) (· != c)).length_le; omega
theorem field_len (t : List UInt8) : (fieldL t).1.length ≤ t.length ∧ (fieldL t).2.1.length ≤ t.length := by
  have h := cut_le 58 t
  have h2 := trim_le (cut2 58 t)
  unfold fieldL
  split
  · simp
  · split
    · simp
    · split
      · simp
      · exact ⟨h.1, by simp only; omega⟩
/-- what has been read of a head: fields and their sizes, the length, what is left -/
structure HeadOk (rq : Bool) (n : Nat) (l : List UInt8) (st' : List UInt8) (L' : List F) (n' : Nat) (r : List UInt8) : Prop where
  start : startE rq st' = 0
  slen : st'.length ≤ 2000
  small : ∀ p ∈ L', p.1.size ≤ 2000 ∧ p.2.size ≤ 2000
  few : L'.length ≤ 64
  ahead : n ≤ n'
  len : n' ≤ 16000
  rest : r = l.drop (n' - n)
  most : n' ≤ n + l.length
theorem head_ok : ∀ {f k n : Nat} {rq : Bool} {st l st' r : List UInt8} {L L' : List F} {n' : Nat}, headF f rq k st L n l = .inr (st', L', n', r) → (k = 0 ∨ (startE rq st = 0 ∧ st.length ≤ 2000)) → (∀ p ∈ L, p.1.size ≤ 2000 ∧ p.2.size ≤ 2000) → L.length ≤ k - 1 → L.length ≤ 64 → HeadOk rq n l st' L' n' r
  | 0, k, n, rq, st, l, st', r, L, L', n', h, hs, hL, hk, h64 => by cases h
  | f + 1, k, n, rq, st, l, st', r, L, L', n', h, hs, hL, hk, h64 => by
    unfold headF at h
    split at h
    · cases h
    · rename_i t r2 hn
      obtain ⟨e1, e2, e3⟩ := next_line hn
      have hlen := congrArg List.length e1
      simp at hlen
      have hdr : r2 = l.drop (t.length + 2) := by
        rw [e1, ← List.drop_drop, List.drop_left]; rfl
      split at h
      · cases h
      · rename_i hlong
        have more : ∀ {k st L}, headF f rq k st L (n + t.length + 2) r2 = .inr (st', L', n', r) → (k = 0 ∨ (startE rq st = 0 ∧ st.length ≤ 2000)) → (∀ p ∈ L, p.1.size ≤ 2000 ∧ p.2.size ≤ 2000) → L.length ≤ k - 1 → L.length ≤ 64 → HeadOk rq n l st' L' n' r := by
          intro k st L h hs hL hk h64
          obtain ⟨a, b, c, d, e, g, i, j⟩ := head_ok h hs hL hk h64
          refine ⟨a, b, c, d, by omega, g, ?_, by omega⟩
          rw [i, hdr, List.drop_drop]
          congr 1; omega
        split at h
        · rename_i hk0
          split at h
          · cases h
          · rename_i hse
            exact more h (.inr ⟨by simpa using hse, e3⟩) hL (by omega) h64
        · rename_i hk0
          split at h
          · rename_i ht
            cases h
            subst ht
            have hs' := hs.resolve_left hk0
            refine ⟨hs'.1, hs'.2, hL, h64, by omega, by simp at hlong ⊢; omega, ?_, by simp; omega⟩
            rw [hdr]; congr 1; omega
          · rename_i ht
            split at h
            · cases h
            · have hf := field_len t
              refine more h (.inr (hs.resolve_left hk0)) (fun p hp => ?_) (by rw [List.length_append]; simp; omega) (by rw [List.length_append]; simp; simp [ht] at hlong; omega)
              rcases List.mem_append.mp hp with hp | hp
              · exact hL p hp
              · rw [List.mem_singleton] at hp
                subst hp
                exact ⟨by rw [bs_size]; omega, by rw [bs_size]; omega⟩
theorem headL_ok {rq : Bool} {l st r : List UInt8} {L : List F} {n : Nat} (h : headL rq l = .inr (st, L, n, r)) : HeadOk rq 0 l st L n r :=
  head_ok h (.inl rfl) (by simp) (by simp) (by simp)
end
section
theorem all_eol {P : Int → Bool} (hP : ∀ x : Fin 256, P (x.1 : Nat) = true → eolB (UInt8.ofNat x.1) = true) {l : List UInt8} (h : allI P l = true) : ∀ c ∈ l, eolB c = true := fun c hc => by
  have q := List.all_eq_true.mp h c hc
  have := hP ⟨c.toNat, c.toNat_lt⟩ q
  simpa using this
theorem tok_eol {l : List UInt8} (h : tokL l = true) : ∀ c ∈ l, eolB c = true := by
  unfold tokL at h
  simp only [Bool.and_eq_true] at h
  exact all_eol (by decide +kernel) h.2
theorem vis_eol {l : List UInt8} (h : visL l = true) : ∀ c ∈ l, eolB c = true := by
  unfold visL at h
  simp only [Bool.and_eq_true] at h
  exact all_eol (by decide +kernel) h.2
theorem texts_eol {l : List UInt8} (h : textL l = true) : ∀ c ∈ l, eolB c = true := fun c hc => text_eol (List.all_eq_true.mp h c hc)
theorem eol_app {a b : List UInt8} (ha : ∀ c ∈ a, eolB c = true) (hb : ∀ c ∈ b, eolB c = true) : ∀ c ∈ a ++ b, eolB c = true := fun c hc => by
  rcases List.mem_append.mp hc with e | e
  · exact ha c e
  · exact hb c e
theorem eol_cons {d : UInt8} {b : List UInt8} (hd : eolB d = true) (hb : ∀ c ∈ b, eolB c = true) : ∀ c ∈ d :: b, eolB c = true := fun c hc => by
  rcases List.mem_cons.mp hc with e | e
  · rw [e]; exact hd
  · exact hb c e
theorem ver_eol {n : Int} (h : n = 0 ∨ n = 1) : ∀ c ∈ http7 ++ decL n, eolB c = true := by
  rcases h with rfl | rfl
  · rw [dec_0]; decide
  · rw [dec_1]; decide
theorem req_eol {l m t : List UInt8} {v : Int} (h : reqL l = (m, t, v, 0)) : (∀ c ∈ l, eolB c = true) ∧ l.length ≤ 2000 := by
  have hp := req_parts h
  have hb := req_back h
  have hv : v = 0 ∨ v = 1 := by rw [hp.2.2.2.2.2.2]; exact ver_min
  refine ⟨?_, hp.1⟩
  rw [← hb]
  exact eol_app (tok_eol hp.2.2.2.1) (eol_cons (by decide) (eol_app (vis_eol hp.2.2.2.2.1) (eol_cons (by decide) (ver_eol hv))))
theorem sta_eol {l r : List UInt8} {n s : Int} (h : staL l = (n, s, r, 0)) : (∀ c ∈ l, eolB c = true) ∧ l.length ≤ 2000 := by
  have hp := sta_parts h
  have hr := sta_range h
  have hb := sta_back h
  obtain ⟨a, b, c, hd, ha, hb2, hc, _, _⟩ := dec_ex hr.2.1 hr.2.2.1
  refine ⟨?_, hp.1⟩
  rw [← hb]
  have ht : textL r = true := by
    have hcnd := hp.2.1
    unfold condS at hcnd
    simp only [Bool.and_eq_true] at hcnd
    rw [hp.2.2.2.2.2]; exact hcnd.2
  have hdig : ∀ x ∈ decL s, eolB x = true := by
    rw [hd]
    have key : ∀ y : UInt8, digitI y.toNat = true → eolB y = true := fun y hy => text_eol (by
      unfold textI; simp [digitI] at hy ⊢; omega)
    exact eol_cons (key a ha) (eol_cons (key b hb2) (eol_cons (key c hc) (by simp)))
  exact eol_app (ver_eol hr.1) (eol_cons (by decide) (eol_app hdig (eol_cons (by decide) (texts_eol ht))))
theorem start_eol {rq : Bool} {st : List UInt8} (h : startE rq st = 0) : (∀ c ∈ st, eolB c = true) ∧ st.length ≤ 2000 := by
  unfold startE at h
  cases rq
  · obtain ⟨n, s, r, e, hs⟩ : ∃ n s r e, staL st = (n, s, r, e) := ⟨_, _, _, _, rfl⟩
    rw [hs] at h
    simp at h; subst h
    exact sta_eol hs
  · obtain ⟨m, t, v, e, hs⟩ : ∃ m t v e, reqL st = (m, t, v, e) := ⟨_, _, _, _, rfl⟩
    rw [hs] at h
    simp at h; subst h
    exact req_eol hs
/-- no field of the list frames a body -/
def NoFr (L : List F) : Prop := ∀ p ∈ L, nmd teN p = false ∧ nmd clN p = false
theorem unfr_no (L : List F) : NoFr (unfrL L) := fun p hp => by
  unfold unfrL remL at hp
  simp only [List.mem_filter, Bool.not_eq_true', Bool.not_eq_eq_eq_not, Bool.not_true] at hp
  exact ⟨by simpa using hp.2, by simpa using hp.1.2⟩
theorem unfr_id {L : List F} (h : NoFr L) : unfrL L = L := by
  have k1 : L.filter (fun p => !nmd clN p) = L := List.filter_eq_self.mpr (fun p hp => by rw [(h p hp).2]; rfl)
  have k2 : L.filter (fun p => !nmd teN p) = L := List.filter_eq_self.mpr (fun p hp => by rw [(h p hp).1]; rfl)
  unfold unfrL remL
  rw [k1]; exact k2
theorem get_no {nm : ByteArray} {L : List F} (h : ∀ p ∈ L, nmd nm p = false) : getL nm L = [] := by
  unfold getL
  rw [List.filter_eq_nil_iff.mpr (fun p hp => by rw [h p hp]; simp)]; rfl
theorem get_app (nm : ByteArray) (A B : List F) : getL nm (A ++ B) = getL nm A ++ getL nm B := by unfold getL; rw [List.filter_append, List.map_append]
def clenF (n : Int) : F := (clN, bs (decL n))
theorem nmd_cl (n : Int) : nmd clN (clenF n) = true ∧ nmd teN (clenF n) = false ∧ nmd hostN (clenF n) = false := by
  refine ⟨?_, ?_, ?_⟩
  · show foldL clN.data.toList clN.data.toList = true; decide +kernel
  · show foldL clN.data.toList teN.data.toList = false; decide +kernel
  · show foldL clN.data.toList hostN.data.toList = false; decide +kernel
theorem cl_valid {n : Int} (h0 : 0 ≤ n) (h1 : n ≤ 100000) : validF (clenF n) = true ∧ lineL clN.data.toList (decL n) ++ [13, 10] = clenL n ∧ (decL n).length ≤ 9 ∧ decL n ≠ [] := by
  have hd : ∀ c ∈ decL n, digitI c.toNat = true := by
    have : allI digitI (decL n) = true := by rw [decL, if_neg (by omega)]; exact decF_digits _ _ _ rfl
    exact fun c hc => List.all_eq_true.mp this c hc
  have hne : decL n ≠ [] := by
    intro e
    have := num_dec h0 (by omega)
    rw [e] at this
    simp [numL] at this
  have hlen : (decL n).length ≤ 9 := by
    have key : ∀ f m acc, m < 1000000000 → (decF f m acc).length ≤ acc.length + 9 := by
      have s : ∀ k, ∀ f m acc, m < 10 ^ k → 1 ≤ k → (decF f m acc).length ≤ acc.length + k := by
        intro k
        induction k with
        | zero => intro f m acc _ h; omega
        | succ k ih =>
          intro f m acc hm _
          match f with
          | 0 => simp [decF]
          | f + 1 =>
            unfold decF
            split
            · simp <;> omega
            · by_cases hk : k = 0
              · subst hk; simp at hm; omega
              · have := ih f (m / 10) (digB m :: acc) (by rw [Nat.pow_succ] at hm; omega) (by omega)
                simp only [List.length_cons] at this; omega
      exact fun f m acc hm => s 9 f m acc hm (by omega)
    have := key 20 n.natAbs [] (by omega)
    rw [decL, if_neg (by omega)]
    simpa using this
  have htx : textL (decL n) = true := by
    unfold textL allI
    refine List.all_eq_true.mpr fun c hc => ?_
    have := hd c hc
    unfold textI; simp [digitI] at this ⊢; omega
  have htr : trimL (decL n) = decL n := by
    have hb : ∀ c ∈ decL n, blankB c = false := fun c hc => by
      have := hd c hc
      unfold blankB blankI
      simp [digitI] at this ⊢; omega
    obtain ⟨a, b, e, ha, hb2, _⟩ := trim_split (decL n)
    have ea : a = [] := by
      match a, ha, e with
      | [], _, _ => rfl
      | x :: a, ha, e =>
        have h1 := ha x (by simp)
        have h2 := hb x (by rw [e]; simp)
        rw [h1] at h2; cases h2
    have eb : b = [] := by
      match b, hb2, e with
      | [], _, _ => rfl
      | x :: b, hb2, e =>
        have h1 := hb2 x (by simp)
        have h2 := hb x (by rw [e]; simp)
        rw [h1] at h2; cases h2
    rw [ea, eb] at e
    simpa using e.symm
  refine ⟨?_, ?_, hlen, hne⟩
  · unfold validF clenF validL wellL
    rw [bs_toList, htx, htr]
    have ht : tokL clN.data.toList = true := by decide +kernel
    have hl : lineN clN.data.toList (decL n) ≤ 2000 := by
      unfold lineN
      have : clN.data.toList.length = 14 := rfl
      split <;> omega
    simp [ht, hl]
  · unfold lineL clenL; rw [if_neg hne]
def moreF (L : List F) (n : Int) (length : Bool) : List F := L ++ (if length = true then [clenF n] else [])
theorem out_flat {st : List UInt8} {L : List F} {n : Int} {length : Bool} (h0 : 0 ≤ n) (h1 : n ≤ 100000) (more : List UInt8) : outL6 st L n length ++ more = st ++ 13 :: 10 :: (flatL (moreF L n length) ++ 13 :: 10 :: more) := by
  cases length
  · simp [outL6, moreF]
  · have e := (cl_valid h0 h1).2.1
    have e2 : flatL [clenF n] = clenL n := by
      unfold flatL clenF
      simp only [List.flatMap_cons, List.flatMap_nil, List.append_nil, bs_toList]
      exact e
    have e3 : flatL (L ++ [clenF n]) = flatL L ++ clenL n := by
      rw [← e2]; unfold flatL; rw [List.flatMap_append]
    unfold outL6 moreF
    rw [if_pos rfl, if_pos rfl, e3]
    simp
theorem out_read {rq : Bool} {st : List UInt8} {L : List F} {n : Int} {length : Bool} (hs : startE rq st = 0) (hv : L.all validF = true) (hL : L.length ≤ 63) (h0 : 0 ≤ n) (h1 : n ≤ 100000) (hn : (outL6 st L n length).length ≤ 16000) (more : List UInt8) :
    headL rq (outL6 st L n length ++ more) = .inr (st, moreF L n length, (outL6 st L n length).length, more) := by
  obtain ⟨he, hl⟩ := start_eol hs
  have e0 := out_flat (st := st) (L := L) (length := length) h0 h1 []
  rw [List.append_nil] at e0
  have hlen : (outL6 st L n length).length = st.length + 2 + (flatL (moreF L n length)).length + 2 := by
    rw [e0]; simp; omega
  rw [out_flat h0 h1, head_read he hl hs ?_ ?_ (by omega), hlen]
  · intro p hp
    unfold moreF at hp
    rcases List.mem_append.mp hp with q | q
    · exact List.all_eq_true.mp hv p q
    · split at q
      · simp at q; rw [q]; exact (cl_valid h0 h1).1
      · simp at q
  · unfold moreF
    cases length <;> simp <;> omega
theorem framed_out {L : List F} {n : Int} {length : Bool} (hL : NoFr L) (h0 : 0 ≤ n) (h1 : n ≤ 100000) : framedL (moreF L n length) = ((if length = true then n else -2), 0) ∧ unfrL (moreF L n length) = L ∧ getL hostN (moreF L n length) = getL hostN L := by
  have ht : getL teN L = [] := get_no (fun p hp => (hL p hp).1)
  have hc : getL clN L = [] := get_no (fun p hp => (hL p hp).2)
  cases length
  · have e : moreF L n false = L := by simp [moreF]
    rw [e]
    refine ⟨?_, unfr_id hL, rfl⟩
    unfold framedL; rw [ht, hc]; simp
  · have e : moreF L n true = L ++ [clenF n] := by simp [moreF]
    obtain ⟨c1, c2, c3⟩ := nmd_cl n
    have g1 : getL teN [clenF n] = [] := get_no (fun p hp => by simp at hp; rw [hp]; exact c2)
    have g2 : getL clN [clenF n] = [bs (decL n)] := by unfold getL; rw [List.filter_cons, c1]; simp [clenF]
    have g3 : getL hostN [clenF n] = [] := get_no (fun p hp => by simp at hp; rw [hp]; exact c3)
    rw [e]
    refine ⟨?_, ?_, ?_⟩
    · unfold framedL
      rw [get_app, get_app, ht, hc, g1, g2]
      have hnum : numL (decL n) = some n := by
        rw [num_dec h0 (by omega)]
        have : min n 2147483647 = n := by omega
        rw [this]
      have hsz : (bs (decL n)).size ≤ 9 := by rw [bs_size]; exact (cl_valid h0 h1).2.2.1
      simp [bs_toList, hnum, hsz]
    · unfold unfrL remL
      have k1 : L.filter (fun p => !nmd clN p) = L := List.filter_eq_self.mpr (fun p hp => by rw [(hL p hp).2]; rfl)
      have k2 : L.filter (fun p => !nmd teN p) = L := List.filter_eq_self.mpr (fun p hp => by rw [(hL p hp).1]; rfl)
      rw [List.filter_append, k1, List.filter_cons, c1]
      simp only [Bool.not_true, Bool.false_eq_true, if_false, List.filter_nil, List.append_nil]
      exact k2
    · rw [get_app, g3, List.append_nil]
theorem joined_ne {st : List UInt8} {L0 : List F} {b : List UInt8} {length whole : Bool} (h : joinedL st L0 b length whole ≠ []) :
    st ≠ [] ∧ (unfrL L0).length ≤ 63 ∧ b.length ≤ 100000 ∧ (unfrL L0).all validF = true ∧ (outL6 st (unfrL L0) b.length length).length ≤ 16000 ∧ joinedL st L0 b length whole = outL6 st (unfrL L0) b.length length ++ (if whole = true then b else []) := by
  unfold joinedL at h ⊢
  simp only at h ⊢
  split at h
  · exact absurd rfl h
  · rename_i h1
    split at h
    · exact absurd rfl h
    · rename_i h2
      simp only [not_or, Nat.not_lt, Bool.not_eq_false] at h1
      refine ⟨h1.1, h1.2.1, h1.2.2.1, h1.2.2.2, by omega, ?_⟩
      rw [if_neg (by simp only [not_or, Nat.not_lt, Bool.not_eq_false]; exact h1), if_neg h2]
theorem body_all (b more : List UInt8) (h : b.length ≤ 100000) : bodyL (b.length : Int) (b ++ more) = .inr (b, (b.length : Int)) := by
  unfold bodyL
  rw [if_neg (by omega), if_neg (by omega), if_neg (by simp; omega)]
  simp
theorem fmtReq_ne {m t : List UInt8} {v : Int} (h : fmtReqL m t v ≠ []) : fmtReqL m t v = reqLine m t v ∧ reqL (fmtReqL m t v) = (m, t, v, 0) := by
  unfold fmtReqL at h ⊢
  split at h
  · rename_i q
    rw [if_pos q]; exact ⟨rfl, q⟩
  · exact absurd rfl h
end
section
/-- a request as it is written, whatever its Host fields are -/
theorem request_read {m t b : List UInt8} {v : Int} {L : List F} (hs : reqL (fmtReqL m t v) = (m, t, v, 0)) (hL : NoFr L) (hv : L.all validF = true) (h63 : L.length ≤ 63) (hb : b.length ≤ 100000) (hn : (outL6 (fmtReqL m t v) L b.length true).length ≤ 16000) :
    reqM (outL6 (fmtReqL m t v) L b.length true ++ b) = if hostE L v = true then (zeroRQ, 0, 6) else ((m, t, v, L, b), ((outL6 (fmtReqL m t v) L b.length true ++ b).length : Int), 0) := by
  have hst : startE true (fmtReqL m t v) = 0 := by unfold startE; rw [if_pos rfl, hs]
  have hr := out_read (rq := true) hst hv h63 (by omega) (by omega) hn b
  obtain ⟨f1, f2, f3⟩ := framed_out (L := L) (n := (b.length : Int)) (length := true) hL (by omega) (by omega)
  have hhost : hostE (moreF L (b.length : Int) true) v = hostE L v := by unfold hostE; rw [f3]
  unfold reqM
  rw [hr]
  simp only [f1, f2, hs, hhost]
  rw [if_neg (by simp)]
  cases hostE L v
  · rw [if_neg (by simp), if_neg (by simp)]
    simp only [if_true]
    rw [if_neg (by simp)]
    have := body_all b [] hb
    rw [List.append_nil] at this
    rw [this]
    simp only [List.length_append]
    push_cast
    rfl
  · rw [if_pos rfl, if_pos rfl]
def teF : F := (teN, ⟨#[67, 104, 117, 110, 107, 101, 100]⟩)
def teLine : List UInt8 := teN.data.toList ++ [58, 32, 67, 104, 117, 110, 107, 101, 100, 13, 10]
theorem te_facts : validF teF = true ∧ flatL [teF] = teLine ∧ nmd teN teF = true ∧ nmd clN teF = false ∧ nmd hostN teF = false ∧ foldL teF.2.data.toList chunkedL = true := by
  refine ⟨?_, ?_, ?_, ?_, ?_, ?_⟩ <;> decide +kernel
/-- the same, chunked -/
theorem request_chunked {m t b : List UInt8} {v z : Int} {L : List F} (hs : reqL (fmtReqL m t v) = (m, t, v, 0)) (hL : NoFr L) (hv : L.all validF = true) (h63 : L.length ≤ 63) (hb : b.length ≤ 100000) (hn : (fmtReqL m t v).length + 2 + (flatL L).length + 30 ≤ 16000) :
    reqM (fmtReqL m t v ++ [13, 10] ++ flatL L ++ teLine ++ [13, 10] ++ encodeL b z) = if hostE L v = true then (zeroRQ, 0, 6) else ((m, t, v, L, b), ((fmtReqL m t v ++ [13, 10] ++ flatL L ++ teLine ++ [13, 10] ++ encodeL b z).length : Int), 0) := by
  obtain ⟨t1, t2, t3, t4, t5, t6⟩ := te_facts
  have hst : startE true (fmtReqL m t v) = 0 := by unfold startE; rw [if_pos rfl, hs]
  obtain ⟨he, hl⟩ := start_eol hst
  have hfl : flatL (L ++ [teF]) = flatL L ++ teLine := by rw [← t2]; unfold flatL; rw [List.flatMap_append]
  have htl : teLine.length = 28 := rfl
  have e0 : fmtReqL m t v ++ [13, 10] ++ flatL L ++ teLine ++ [13, 10] ++ encodeL b z = fmtReqL m t v ++ 13 :: 10 :: (flatL (L ++ [teF]) ++ 13 :: 10 :: encodeL b z) := by rw [hfl]; simp
  have hr := head_read (rq := true) (more := encodeL b z) (L := L ++ [teF]) he hl hst (fun p hp => by
    rcases List.mem_append.mp hp with q | q
    · exact List.all_eq_true.mp hv p q
    · simp at q; rw [q]; exact t1) (by simp; omega) (by rw [hfl, List.length_append, htl]; omega)
  have ht : getL teN L = [] := get_no (fun p hp => (hL p hp).1)
  have hc : getL clN L = [] := get_no (fun p hp => (hL p hp).2)
  have g1 : getL teN [teF] = [teF.2] := by unfold getL; rw [List.filter_cons, t3]; simp
  have g2 : getL clN [teF] = [] := get_no (fun p hp => by simp at hp; rw [hp]; exact t4)
  have g3 : getL hostN [teF] = [] := get_no (fun p hp => by simp at hp; rw [hp]; exact t5)
  have hfr : framedL (L ++ [teF]) = (-1, 0) := by
    unfold framedL
    rw [get_app, get_app, ht, hc, g1, g2]
    simp [t6]
  have hhost : hostE (L ++ [teF]) v = hostE L v := by unfold hostE; rw [get_app, g3, List.append_nil]
  have hun : unfrL (L ++ [teF]) = L := by
    have k1 : L.filter (fun p => !nmd clN p) = L := List.filter_eq_self.mpr (fun p hp => by rw [(hL p hp).2]; rfl)
    have k2 : L.filter (fun p => !nmd teN p) = L := List.filter_eq_self.mpr (fun p hp => by rw [(hL p hp).1]; rfl)
    unfold unfrL remL
    rw [List.filter_append, k1, List.filter_cons, t4]
    simp only [Bool.not_false, if_true, List.filter_nil]
    rw [List.filter_append, k2, List.filter_cons, t3]
    simp
  have hdec := decode_back (b := b) (more := []) (z := z) hb
  rw [List.append_nil] at hdec
  rw [e0]
  unfold reqM
  rw [hr]
  simp only [hfr, hs, hhost, hun]
  rw [if_neg (by simp)]
  cases hostE L v
  · rw [if_neg (by simp), if_neg (by simp), if_neg (by simp)]
    have hbd : bodyL (-1) (encodeL b z) = .inr (b, ((encodeL b z).length : Int)) := by
      unfold bodyL
      rw [if_pos rfl, hdec]; simp
    rw [hbd]
    simp only
    refine congrArg _ (congrArg (fun x => (x, (0 : Int))) ?_)
    simp only [List.length_append, List.length_cons]
    push_cast
    omega
  · rw [if_pos rfl, if_pos rfl]
/-- a field with a space ahead of its value, be that empty or not -/
theorem field_sp {n v : List UInt8} (hn : n.length ≤ 1000) (h : validL n v = true) : fieldL (n ++ [58, 32] ++ v) = (n, v, 0) := by
  by_cases hv : v = []
  · subst hv
    obtain ⟨h1, h2, h3, h4⟩ := valid_parts h
    obtain ⟨c1, c2, c3⟩ := cut_app (c := 58) (b := [32]) (colon_not h1)
    have e : n ++ [58, 32] ++ ([] : List UInt8) = n ++ 58 :: [32] := by simp
    have h4' : n.length + 1 ≤ 2000 := by simpa [lineN] using h4
    have htr : trimL ([32] : List UInt8) = [] := by decide
    have hlong : ¬ 2000 < (n ++ 58 :: [32]).length := by simp; omega
    rw [e, field_ok hlong (by rw [c1, c2, c3, h1]; rfl) (by rw [c1, c2, htr]; simp [lineN]; omega), c1, c2, htr]
  · have e : n ++ [58, 32] ++ v = lineL n v := by unfold lineL; rw [if_neg hv]
    rw [e]; exact field_back h
end
section
/-- a field's line with a space ahead of the value, be that empty or not -/
def spL (p : F) : List UInt8 := p.1.data.toList ++ [58, 32] ++ p.2.data.toList
def rawL (M : List F) : List UInt8 := M.flatMap fun p => spL p ++ [13, 10]
def spF (p : F) : Prop := p.1.data.toList.length ≤ 1000 ∧ validF p = true
theorem raw_cons (p : F) (L : List F) (more : List UInt8) : rawL (p :: L) ++ more = spL p ++ 13 :: 10 :: (rawL L ++ more) := by simp [rawL]
theorem raw_len (p : F) (L : List F) : (rawL (p :: L)).length = (spL p).length + 2 + (rawL L).length := by simp [rawL]; omega
theorem sp_line {p : F} (h : spF p) (r : List UInt8) : nextL (spL p ++ 13 :: 10 :: r) = .inr (spL p, r) ∧ spL p ≠ [] ∧ fieldL (spL p) = (p.1.data.toList, p.2.data.toList, 0) := by
  obtain ⟨hn, hv⟩ := h
  obtain ⟨h1, h2⟩ := line_eol hv
  have h4 := (valid_parts hv).2.2.2
  have hf : fieldL (spL p) = (p.1.data.toList, p.2.data.toList, 0) := field_sp hn hv
  have hne : spL p ≠ [] := by unfold spL; simp
  refine ⟨?_, hne, hf⟩
  by_cases he : p.2.data.toList = []
  · have e1 : spL p = p.1.data.toList ++ [58, 32] := by unfold spL; rw [he, List.append_nil]
    have e2 : lineL p.1.data.toList p.2.data.toList = p.1.data.toList ++ [58] := by unfold lineL; rw [if_pos he]
    rw [e2] at h1
    refine next_ok ?_ (by rw [e1, List.length_append]; simp only [List.length_cons, List.length_nil]; omega)
    rw [e1]
    intro c hc
    simp only [List.mem_append, List.mem_cons, List.not_mem_nil, or_false] at hc
    rcases hc with hc | hc | hc
    · exact h1 c (by simp [hc])
    · exact h1 c (by simp [hc])
    · subst hc; decide
  · have e2 : lineL p.1.data.toList p.2.data.toList = spL p := by unfold lineL spL; rw [if_neg he]
    rw [e2] at h1
    exact next_ok h1 (by rw [← e2, lineN_eq]; exact h4)
theorem raw_fields : ∀ (L : List F) (f k n : Nat) (rq : Bool) (st : List UInt8) (acc : List F) (more : List UInt8), (∀ p ∈ L, spF p) → 1 ≤ k → k + L.length ≤ 65 → n + (rawL L).length ≤ 16000 →
    headF (f + L.length) rq k st acc n (rawL L ++ more) = headF f rq (k + L.length) st (acc ++ L) (n + (rawL L).length) more
  | [], f, k, n, rq, st, acc, more, _, _, _, _ => by simp [rawL]
  | p :: L, f, k, n, rq, st, acc, more, hv, hk, hkl, hn => by
    obtain ⟨h1, h2, h3⟩ := sp_line (hv p (by simp)) (rawL L ++ more)
    rw [raw_len] at hn
    rw [raw_cons]
    show headF (f + L.length + 1) rq k st acc n _ = _
    rw [head_more h1 (by simp only [List.length_cons] at hkl; omega) (by omega) h2 (by rw [h3]), h3]
    have hp : (bs p.1.data.toList, bs p.2.data.toList) = p := rfl
    rw [hp, raw_fields L f (k + 1) _ rq st (acc ++ [p]) more (fun q hq => hv q (by simp [hq])) (by omega) (by simp only [List.length_cons] at hkl; omega) (by omega)]
    rw [raw_len, List.append_assoc, List.length_cons]
    congr 1
    · omega
    · omega
/-- a head whose fields all have a space ahead of their values is read -/
theorem head_raw {rq : Bool} {st more : List UInt8} {L : List F} (he : startE rq st = 0) (hv : ∀ p ∈ L, spF p) (hL : L.length ≤ 64) (hn : st.length + 2 + (rawL L).length + 2 ≤ 16000) :
    headL rq (st ++ 13 :: 10 :: (rawL L ++ 13 :: 10 :: more)) = .inr (st, L, st.length + 2 + (rawL L).length + 2, more) := by
  obtain ⟨hs, hsl⟩ := start_eol he
  unfold headL
  rw [head_first (next_ok hs hsl) (by simp; omega) he]
  obtain ⟨g, hg⟩ : ∃ g, 66 = (g + 1) + L.length := ⟨65 - L.length, by omega⟩
  rw [show (66 : Nat) = (g + 1) + L.length from hg, raw_fields L (g + 1) 1 _ rq st [] _ hv (by omega) (by omega) (by simp; omega), List.nil_append]
  rw [head_done (end_next more) (by omega) (by omega)]
  simp
def postL : List UInt8 := [80, 79, 83, 84, 32, 47, 32, 72, 84, 84, 80, 47, 49, 46, 49]
theorem post_start : reqL postL = ([80, 79, 83, 84], [47], 1, 0) := by decide +kernel
theorem post_head {L : List F} (hv : ∀ p ∈ L, spF p) (hL : L.length ≤ 64) (hn : (rawL L).length ≤ 15000) : headL true (postL ++ 13 :: 10 :: (rawL L ++ [13, 10])) = .inr (postL, L, postL.length + 2 + (rawL L).length + 2, []) :=
  head_raw (by unfold startE; rw [if_pos rfl, post_start]) hv hL (by have : postL.length = 15 := rfl; omega)
/-- refused for how it is framed -/
theorem post_framed {L : List F} (hv : ∀ p ∈ L, spF p) (hL : L.length ≤ 64) (hn : (rawL L).length ≤ 15000) {e : Int} (he : (framedL L).2 = e) (h0 : e ≠ 0) : reqM (postL ++ 13 :: 10 :: (rawL L ++ [13, 10])) = (zeroRQ, 0, e) := by
  unfold reqM
  rw [post_head hv hL hn]
  simp only [he]
  rw [if_pos h0]
/-- refused for its Host fields -/
theorem post_host {L : List F} (hv : ∀ p ∈ L, spF p) (hL : L.length ≤ 64) (hn : (rawL L).length ≤ 15000) (he : (framedL L).2 = 0) (h2 : hostE L 1 = true) : reqM (postL ++ 13 :: 10 :: (rawL L ++ [13, 10])) = (zeroRQ, 0, 6) := by
  unfold reqM
  rw [post_head hv hL hn]
  simp only [he, post_start, h2]
  simp
def hostF (h : ByteArray) : F := (hostN, h)
def hostF2 (h : ByteArray) : F := (⟨#[72, 79, 83, 84]⟩, h)
def clenF2 (n : Int) : F := (⟨#[99, 111, 110, 116, 101, 110, 116, 45, 108, 101, 110, 103, 116, 104]⟩, bs (decL n))
def teF0 : F := (teN, ⟨#[99, 104, 117, 110, 107, 101, 100]⟩)
def teF2 : F := (teN, ⟨#[103, 122, 105, 112, 44, 32, 99, 104, 117, 110, 107, 101, 100]⟩)
theorem nmd_host (h : ByteArray) : nmd clN (hostF h) = false ∧ nmd teN (hostF h) = false ∧ nmd hostN (hostF h) = true := by
  refine ⟨?_, ?_, ?_⟩
  · show foldL hostN.data.toList clN.data.toList = false; decide +kernel
  · show foldL hostN.data.toList teN.data.toList = false; decide +kernel
  · show foldL hostN.data.toList hostN.data.toList = true; decide +kernel
theorem nmd_host2 (h : ByteArray) : nmd clN (hostF2 h) = false ∧ nmd teN (hostF2 h) = false ∧ nmd hostN (hostF2 h) = true := by
  refine ⟨?_, ?_, ?_⟩
  · show foldL [72, 79, 83, 84] clN.data.toList = false; decide +kernel
  · show foldL [72, 79, 83, 84] teN.data.toList = false; decide +kernel
  · show foldL [72, 79, 83, 84] hostN.data.toList = true; decide +kernel
theorem nmd_cl2 (n : Int) : nmd clN (clenF2 n) = true ∧ nmd teN (clenF2 n) = false ∧ nmd hostN (clenF2 n) = false := by
  refine ⟨?_, ?_, ?_⟩
  · show foldL [99, 111, 110, 116, 101, 110, 116, 45, 108, 101, 110, 103, 116, 104] clN.data.toList = true; decide +kernel
  · show foldL [99, 111, 110, 116, 101, 110, 116, 45, 108, 101, 110, 103, 116, 104] teN.data.toList = false; decide +kernel
  · show foldL [99, 111, 110, 116, 101, 110, 116, 45, 108, 101, 110, 103, 116, 104] hostN.data.toList = false; decide +kernel
theorem te0_facts : validF teF0 = true ∧ nmd teN teF0 = true ∧ nmd clN teF0 = false ∧ foldL teF0.2.data.toList chunkedL = true := by
  refine ⟨?_, ?_, ?_, ?_⟩ <;> decide +kernel
theorem te2_facts : validF teF2 = true ∧ nmd teN teF2 = true ∧ nmd clN teF2 = false ∧ foldL teF2.2.data.toList chunkedL = false := by
  refine ⟨?_, ?_, ?_, ?_⟩ <;> decide +kernel
/-- the third field, the answer -/
def twiceF (k : Int) (n : Int) (h : ByteArray) : F × Int := if k = 0 then (teF0, 8) else if k = 1 then (clenF2 n, 8) else if k = 2 then (teF2, 7) else (hostF2 h, 6)
theorem host2_valid {h : ByteArray} (hv : validF (hostF h) = true) : validF (hostF2 h) = true := by
  have e : hostN.data.toList = [72, 111, 115, 116] := rfl
  have e2 : (⟨#[72, 79, 83, 84]⟩ : ByteArray).data.toList = [72, 79, 83, 84] := rfl
  have t : tokL [72, 79, 83, 84] = true := by decide +kernel
  have t1 : tokL [72, 111, 115, 116] = true := by decide +kernel
  unfold validF hostF at hv
  unfold validF hostF2
  simp only [e, e2, validL, wellL, lineN, t, t1, List.length_cons, List.length_nil] at hv ⊢
  exact hv
theorem cl2_valid {n : Int} (hv : validF (clenF n) = true) : validF (clenF2 n) = true := by
  have e : clN.data.toList = [67, 111, 110, 116, 101, 110, 116, 45, 76, 101, 110, 103, 116, 104] := rfl
  have e2 : (⟨#[99, 111, 110, 116, 101, 110, 116, 45, 108, 101, 110, 103, 116, 104]⟩ : ByteArray).data.toList = [99, 111, 110, 116, 101, 110, 116, 45, 108, 101, 110, 103, 116, 104] := rfl
  have t : tokL [99, 111, 110, 116, 101, 110, 116, 45, 108, 101, 110, 103, 116, 104] = true := by decide +kernel
  have t1 : tokL [67, 111, 110, 116, 101, 110, 116, 45, 76, 101, 110, 103, 116, 104] = true := by decide +kernel
  unfold validF clenF at hv
  unfold validF clenF2
  simp only [e, e2, validL, wellL, lineN, t, t1, List.length_cons, List.length_nil] at hv ⊢
  exact hv
theorem request_twice {k n : Int} {h : ByteArray} (h0 : 0 ≤ n) (h1 : n ≤ 100000) (hh : h.size ≤ 100) (hv : validF (hostF h) = true) :
    reqM (postL ++ 13 :: 10 :: (rawL [hostF h, clenF n, (twiceF k n h).1] ++ [13, 10])) = (zeroRQ, 0, (twiceF k n h).2) := by
  obtain ⟨c1, c2, c3, c4⟩ := cl_valid h0 h1
  obtain ⟨a1, a2, a3⟩ := nmd_host h
  obtain ⟨b1, b2, b3⟩ := nmd_cl n
  have hsz : h.data.toList.length ≤ 100 := by rw [Array.length_toList]; exact hh
  have hd : (bs (decL n)).data.toList = decL n := rfl
  have s1 : spF (hostF h) := ⟨by show hostN.data.toList.length ≤ 1000; decide, hv⟩
  have s2 : spF (clenF n) := ⟨by show clN.data.toList.length ≤ 1000; decide, c1⟩
  have l1 : (spL (hostF h)).length ≤ 200 := by
    show (hostN.data.toList ++ [58, 32] ++ h.data.toList).length ≤ 200
    have : hostN.data.toList.length = 4 := rfl
    simp only [List.length_append, this, List.length_cons, List.length_nil]; omega
  have l2 : (spL (clenF n)).length ≤ 200 := by
    show (clN.data.toList ++ [58, 32] ++ decL n).length ≤ 200
    have : clN.data.toList.length = 14 := rfl
    simp only [List.length_append, this, List.length_cons, List.length_nil]; omega
  have fin : ∀ x : F, spF x → (spL x).length ≤ 200 → (∀ p ∈ [hostF h, clenF n, x], spF p) ∧ [hostF h, clenF n, x].length ≤ 64 ∧ (rawL [hostF h, clenF n, x]).length ≤ 15000 := fun x hx hl => by
    refine ⟨?_, by simp, ?_⟩
    · intro p hp
      simp only [List.mem_cons, List.not_mem_nil, or_false] at hp
      rcases hp with rfl | rfl | rfl
      · exact s1
      · exact s2
      · exact hx
    · rw [raw_len, raw_len, raw_len]; simp only [rawL, List.flatMap_nil, List.length_nil]; omega
  have gt : ∀ x : F, getL teN [hostF h, clenF n, x] = getL teN [x] := fun x => by unfold getL; simp only [List.filter_cons, a2, b2]; simp
  have gc : ∀ x : F, getL clN [hostF h, clenF n, x] = bs (decL n) :: getL clN [x] := fun x => by unfold getL; simp only [List.filter_cons, a1, b1]; simp [clenF]
  have gh : ∀ x : F, getL hostN [hostF h, clenF n, x] = h :: getL hostN [x] := fun x => by unfold getL; simp only [List.filter_cons, a3, b3]; simp [hostF]
  have g1 : ∀ (nm : ByteArray) (x : F), nmd nm x = true → getL nm [x] = [x.2] := fun nm x e => by unfold getL; rw [List.filter_cons, e]; simp
  have g0 : ∀ (nm : ByteArray) (x : F), nmd nm x = false → getL nm [x] = [] := fun nm x e => get_no (fun p hp => by simp at hp; rw [hp]; exact e)
  unfold twiceF
  split
  · obtain ⟨t1, t2, t3, t4⟩ := te0_facts
    obtain ⟨q1, q2, q3⟩ := fin teF0 ⟨by decide, t1⟩ (by decide)
    refine post_framed q1 q2 q3 ?_ (by simp)
    unfold framedL
    rw [gt, gc, g1 _ _ t2, g0 _ _ t3]
    simp [t4]
  · split
    · obtain ⟨t1, t2, t3⟩ := nmd_cl2 n
      obtain ⟨q1, q2, q3⟩ := fin (clenF2 n) ⟨by show [99, 111, 110, 116, 101, 110, 116, 45, 108, 101, 110, 103, 116, 104].length ≤ 1000; decide, cl2_valid c1⟩ (by
        show ([99, 111, 110, 116, 101, 110, 116, 45, 108, 101, 110, 103, 116, 104] ++ [58, 32] ++ decL n).length ≤ 200
        simp only [List.length_append, List.length_cons, List.length_nil]; omega)
      refine post_framed q1 q2 q3 ?_ (by simp)
      unfold framedL
      rw [gt, gc, g0 _ _ t2, g1 _ _ t1]
      simp
    · split
      · obtain ⟨t1, t2, t3, t4⟩ := te2_facts
        obtain ⟨q1, q2, q3⟩ := fin teF2 ⟨by decide, t1⟩ (by decide)
        refine post_framed q1 q2 q3 ?_ (by simp)
        unfold framedL
        rw [gt, gc, g1 _ _ t2, g0 _ _ t3]
        simp [t4]
      · obtain ⟨t1, t2, t3⟩ := nmd_host2 h
        obtain ⟨q1, q2, q3⟩ := fin (hostF2 h) ⟨by show [72, 79, 83, 84].length ≤ 1000; decide, host2_valid hv⟩ (by
          show ([72, 79, 83, 84] ++ [58, 32] ++ h.data.toList).length ≤ 200
          simp only [List.length_append, List.length_cons, List.length_nil]; omega)
        have hnum : numL (decL n) = some n := by rw [num_dec h0 (by omega)]; congr 1; omega
        have hsz9 : (bs (decL n)).size ≤ 9 := c3
        refine post_host q1 q2 q3 ?_ ?_
        · unfold framedL
          rw [gt, gc, g0 _ _ t2, g0 _ _ t1]
          simp [hd, hnum, hsz9]
        · unfold hostE
          rw [gh, g1 _ _ t3]
          simp
end
section
open Go.RowKit
/-- at the address lie the fields L, one behind the other -/
def Fs (w : World) (a : Option Addr) (L : List F) : Prop :=
  ∀ i (h : i < L.length), ∃ g off, a = some ⟨g, off, none⟩ ∧ w.cell? ⟨g, off + i * 2, none⟩ = some (.string L[i].1) ∧ w.cell? ⟨g, off + i * 2 + 1, none⟩ = some (.string L[i].2)
theorem Fs.below {w w' : World} {a : Option Addr} {L : List F} (h : Fs w a L) (hb : Below w.heap.size w w') : Fs w' a L := fun i hi => by
  obtain ⟨g, off, e, c0, c1⟩ := h i hi
  exact ⟨g, off, e, (hb.cell (cell_lt c0)).trans c0, (hb.cell (cell_lt c1)).trans c1⟩
theorem keepFields_any (a : Option Addr) (cap : Nat) (L : List F) (w : World) (hl : L.length ≤ maxLen) (hF : Box (Fs w a L)) :
    Calls Try.prog 15 #[.slice a L.length cap] w fun e w' => e = .returned (.bool (keepF L)) ∧ w = w' := by
  unfold maxLen at hl
  go_enter Try.func15, Try.ntmps15
  go_wp2
  go_loop [3] (fun i => ∃ k : Nat, k ≤ L.length ∧ k ≤ 71 ∧ i = .int .i64 k ∧ (L.take k).all okF = true) (fun i => 71 - (intOf i).toNat)
  case atStart => exact ⟨0, Nat.zero_le _, Nat.zero_le _, rfl, rfl⟩
  case round =>
    obtain ⟨k, hk, hk71, rfl, hall⟩ := hrel
    have HA := box hall
    clear hall
    by_cases hlt : k < L.length
    · by_cases h71 : k < 71
      · obtain ⟨g, off, rfl, c0, c1⟩ := hF.out k hlt
        go_wp2
        · have e1 : ¬ (L[k].1.size ≤ 300 ∧ L[k].2.size ≤ 300) := by omega
          go_ret
          exact ⟨ret_bool (keep_bad hlt e1).symm, rfl⟩
        · have e1 : L[k].1.size ≤ 300 := by omega
          have e2 : L[k].2.size ≤ 300 := by omega
          go_round
          case rel => exact ⟨k + 1, by omega, by omega, by go_num, keep_more hlt HA.out e1 e2⟩
          case measure => simp [intOf]; omega
        · have e1 : ¬ (L[k].1.size ≤ 300 ∧ L[k].2.size ≤ 300) := by omega
          go_ret
          exact ⟨ret_bool (keep_bad hlt e1).symm, rfl⟩
      · go_wp2
        go_ret
        exact ⟨ret_bool (by rw [keep_long (by omega)]; simp; omega), rfl⟩
    · have e : k = L.length := by omega
      have E := box e
      clear e
      by_cases h70 : L.length ≤ 70
      · go_wp2
        go_ret
        refine ⟨ret_bool ?_, rfl⟩
        have ha := HA.out
        rw [E.out] at ha
        rw [keep_end ha h70]
        simp; omega
      · go_wp2
        go_ret
        exact ⟨ret_bool (by rw [keep_long h70]; simp; omega), rfl⟩
end
section
open Go.RowKit
theorem Fold_any (a b : ByteArray) (w : World) (ha : a.size ≤ maxLen) (hb : b.size ≤ maxLen) :
    Calls Try.prog 66 #[.string a, .string b] w fun e w' => e = .returned (.bool (foldL a.data.toList b.data.toList)) ∧ Below w.heap.size w w' := by
  unfold maxLen at ha hb
  by_cases hab : a.size = b.size
  · have hne : ((a.size : Int) != (b.size : Int)) = false := by simp [hab]
    have HAB := Lib.hid hab
    clear hab
    go_enter Try.func66, Try.ntmps66
    go_wp2
    go_loopw [5, 13] (fun _ i wr => ∃ k : Nat, k ≤ a.size ∧ i = .int .i64 k ∧ lowL (a.data.toList.take k) = lowL (b.data.toList.take k) ∧ Below w.heap.size w wr) (fun _ i _ => a.size - (intOf i).toNat)
    case atStart => exact ⟨0, Nat.zero_le _, rfl, rfl, Below.refl _ _⟩
    case round =>
      obtain ⟨k, hk, rfl, hall, hbel⟩ := hrel
      have HH := Lib.hid hall
      clear hall
      by_cases hlt : k < a.size
      · have hltb : k < b.size := by have := HAB.out; omega
        have ba := byte_bd a k hlt
        have bb := byte_bd b k hltb
        by_cases hc : lowI a[k].toNat = lowI b[k].toNat
        · have HC := Lib.hid (fold_more HH.out hlt hltb hc)
          have hcn : (lowI a[k].toNat != lowI b[k].toNat) = false := by simp [hc]
          clear hc
          go_wp2
          go_quiet ((go_at_call 84; exact Calls.quiet_of_same ((lowerByte_any _ _ (by omega) (by omega)).mono fun e w' ⟨h1, h2⟩ => ⟨h1, h2.symm⟩)))
          go_wp2
          go_roundw
          case rel => exact ⟨k + 1, by omega, by go_num, HC.out, hbel.trans ⟨rfl, rfl, rfl, Nat.le_refl _, fun _ _ => rfl⟩⟩
          case measure => simp [intOf]; omega
        · have HC := Lib.hid (fold_not hlt hltb hc)
          have hcn : (lowI a[k].toNat != lowI b[k].toNat) = true := by simp [hc]
          clear hc
          go_wp2
          go_quiet ((go_at_call 84; exact Calls.quiet_of_same ((lowerByte_any _ _ (by omega) (by omega)).mono fun e w' ⟨h1, h2⟩ => ⟨h1, h2.symm⟩)))
          go_wp2
          go_ret
          exact ⟨ret_bool HC.out.symm, hbel.trans ⟨rfl, rfl, rfl, Nat.le_refl _, fun _ _ => rfl⟩⟩
      · go_wp2
        go_ret
        exact ⟨ret_bool (fold_end HH.out (by omega) (by have := HAB.out; omega)).symm, hbel⟩
  · have hne : ((a.size : Int) != (b.size : Int)) = true := by simp; omega
    have HAB := Lib.hid hab
    clear hab
    go_enter Try.func66, Try.ntmps66
    go_wp2
    go_ret
    exact ⟨ret_bool (fold_len HAB.out).symm, Below.refl _ _⟩
theorem rFold_any (a b : ByteArray) (w : World) (ha : a.size ≤ 4294967296) (hb : b.size ≤ 4294967296) :
    Calls Try.prog 27 #[.string a, .string b] w fun e w' => e = .returned (.bool (foldL a.data.toList b.data.toList)) ∧ Below w.heap.size w w' := by
  by_cases hab : a.size = b.size
  · have hne : ((a.size : Int) == (b.size : Int)) = true := by simp [hab]
    have HAB := Lib.hid hab
    clear hab
    go_enter Try.func27, Try.ntmps27
    go_wp2_with fail
    refine (rLower_any _ _ ha).mono ?_; rintro e w1 ⟨rfl, hb1⟩
    go_wp2_with fail
    refine (rLower_any _ _ hb).mono ?_; rintro e w2 ⟨rfl, hb2⟩
    go_wp2
    go_ret
    exact ⟨ret_bool (by unfold foldL; rw [Bool.eq_iff_iff]; simp), hb1.trans (hb2.mono hb1.size)⟩
  · have hne : ((a.size : Int) == (b.size : Int)) = false := by simp; omega
    have HAB := Lib.hid hab
    clear hab
    go_enter Try.func27, Try.ntmps27
    go_wp2
    go_ret
    exact ⟨ret_bool (fold_len HAB.out).symm, Below.refl _ _⟩
end
end Go.Proofs.Ytjabcfabenobiaa.Asc
