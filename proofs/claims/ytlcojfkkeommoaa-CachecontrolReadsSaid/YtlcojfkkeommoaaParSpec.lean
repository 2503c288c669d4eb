/- Plain functions: values with parameters, read and written. No program is named here. -/
import Derived.Test.YtlcojfkkeommoaaLisSpec4
import Derived.Test.YtlcojfkkeommoaaStaSpec2
set_option linter.unusedVariables false
set_option linter.unusedSimpArgs false
set_option maxRecDepth 100000
namespace Go.Proofs.Ytlcojfkkeommoaa.Asc

/-- a parameter: name, '=', a token or a quoted string -/
def paramL (x : List UInt8) : Option F :=
  if cutB 61 x = false ∨ tokL (cut1 61 x) = false then none
  else if tokL (cut2 61 x) = true then some (bs (lowL (cut1 61 x)), bs (cut2 61 x))
  else match unqL (cut2 61 x) with
    | some u => some (bs (lowL (cut1 61 x)), bs u)
    | none => none
/-- the parameters of pieces; those before them -/
def parF : List (List UInt8) → List F → Option (List F)
  | [], acc => some acc
  | p :: ps, acc => if trimL p = [] then parF ps acc else match paramL (trimL p) with
    | some f => parF ps (acc ++ [f])
    | none => none
def parL (s : List UInt8) : Option (List UInt8 × List F) := match cutL 59 s with
  | [] => none
  | v :: ps => if trimL v = [] then none else match parF ps [] with
    | some L => some (trimL v, L)
    | none => none
def valP (v : List UInt8) : List UInt8 := if tokL v = true then v else quoteL v
def oneP (p : F) : List UInt8 := p.1.data.toList ++ 61 :: valP p.2.data.toList
def fmtPL (v : List UInt8) (L : List F) : List UInt8 := v ++ L.flatMap fun p => 59 :: oneP p
def findP (nm : ByteArray) (L : List F) : Option ByteArray := (L.find? fun p => decide (p.1 = nm)).map (·.2)

/-- is a byte behind the list within a quoted string? (as endF, with its own length) -/
def endQ (q : Bool) (l : List UInt8) : Bool := endF l.length q l
theorem endF_fuel : ∀ (f g : Nat) (q : Bool) (l : List UInt8), l.length ≤ f → l.length ≤ g → endF f q l = endF g q l := by
  intro f
  induction f with
  | zero => intro g q l hf hg; have : l = [] := List.eq_nil_of_length_eq_zero (by omega); subst this; rw [endF_nil, endF_nil]
  | succ f ih =>
    intro g q l hf hg
    match l, g with
    | [], g => rw [endF_nil, endF_nil]
    | c :: r, 0 => simp at hg
    | c :: r, g + 1 =>
      simp only [List.length_cons] at hf hg
      rw [endF_cons, endF_cons]
      split
      · match r, hf, hg with
        | [], _, _ => rfl
        | d :: r2, hf, hg =>
          simp only [List.length_cons] at hf hg
          exact ih g q r2 (by omega) (by omega)
      · split
        · exact ih g (!q) r (by omega) (by omega)
        · exact ih g q r (by omega) (by omega)
theorem endL_esc (d : UInt8) (r : List UInt8) : endQ true (92 :: d :: r) = endQ true r := by
  unfold endQ
  show endF (r.length + 1 + 1) true (92 :: d :: r) = _
  rw [endF_cons, if_pos ⟨rfl, rfl⟩]
  exact endF_fuel _ _ _ _ (by omega) (by omega)
theorem endL_quo {q : Bool} {c : UInt8} {r : List UInt8} (h1 : ¬ (q = true ∧ c = 92)) (h : c = 34) : endQ q (c :: r) = endQ (!q) r := by
  unfold endQ
  show endF (r.length + 1) q (c :: r) = _
  rw [endF_cons, if_neg h1, if_pos h]
theorem endL_any {q : Bool} {c : UInt8} {r : List UInt8} (h1 : ¬ (q = true ∧ c = 92)) (h : c ≠ 34) : endQ q (c :: r) = endQ q r := by
  unfold endQ
  show endF (r.length + 1) q (c :: r) = _
  rw [endF_cons, if_neg h1, if_neg h]
/-- what has been escaped, a quote behind it, leads out of the quoted string -/
theorem end_quoted (y : List UInt8) : ∀ l : List UInt8, endQ true (escL l ++ 34 :: y) = endQ false y
  | [] => endL_quo (by simp) rfl
  | c :: r => by
    have e : escL (c :: r) = escB c ++ escL r := rfl
    rw [e]
    unfold escB
    by_cases h : c = 34 ∨ c = 92
    · rw [if_pos h]
      show endQ true (92 :: c :: (escL r ++ 34 :: y)) = _
      rw [endL_esc]; exact end_quoted y r
    · rw [if_neg h]
      show endQ true (c :: (escL r ++ 34 :: y)) = _
      rw [endL_any (fun q => h (.inr q.2)) (fun q => h (.inl q))]; exact end_quoted y r
theorem nc_quoted (sep : UInt8) (y : List UInt8) : ∀ l : List UInt8, ncL sep true (escL l ++ 34 :: y) = ncL sep false y
  | [] => nc_quo (by simp) rfl
  | c :: r => by
    have e : escL (c :: r) = escB c ++ escL r := rfl
    rw [e]
    unfold escB
    by_cases h : c = 34 ∨ c = 92
    · rw [if_pos h]
      show ncL sep true (92 :: c :: (escL r ++ 34 :: y)) = _
      rw [nc_esc ⟨rfl, rfl⟩]; exact nc_quoted sep y r
    · rw [if_neg h]
      show ncL sep true (c :: (escL r ++ 34 :: y)) = _
      rw [nc_any (fun q => h (.inr q.2)) (fun q => h (.inl q)) (by simp)]; exact nc_quoted sep y r
/-- a piece: no separator outside quoted strings, none of which is open at its end -/
def Piece (sep : UInt8) (p : List UInt8) : Prop := ncL sep false p = true ∧ endQ false p = false
theorem Piece.nil (sep : UInt8) : Piece sep [] := ⟨rfl, rfl⟩
theorem Piece.cons {sep c : UInt8} {p : List UInt8} (h1 : c ≠ 34) (h2 : c ≠ sep) (h : Piece sep p) : Piece sep (c :: p) :=
  ⟨by rw [nc_any (by simp) h1 (fun q => h2 q.1)]; exact h.1, by rw [endL_any (by simp) h1]; exact h.2⟩
theorem Piece.plain {sep : UInt8} : ∀ {a p : List UInt8}, (∀ c ∈ a, c ≠ 34 ∧ c ≠ sep) → Piece sep p → Piece sep (a ++ p)
  | [], p, _, h => h
  | c :: r, p, ha, h => Piece.cons (ha c (by simp)).1 (ha c (by simp)).2 (Piece.plain (fun d hd => ha d (by simp [hd])) h)
theorem Piece.quote (sep : UInt8) (l : List UInt8) {p : List UInt8} (h : Piece sep p) : Piece sep (quoteL l ++ p) := by
  have e : quoteL l ++ p = 34 :: (escL l ++ 34 :: p) := by unfold quoteL; simp
  rw [e]
  exact ⟨by rw [nc_quo (by simp) rfl]; exact (nc_quoted sep p l).trans h.1, by rw [endL_quo (by simp) rfl]; exact (end_quoted p l).trans h.2⟩
theorem cut_piece {sep : UInt8} {a : List UInt8} (h : Piece sep a) : cutL sep a = [a] := by
  unfold cutL; rw [nc_cut _ false _ [] (Nat.le_refl _) h.1]; rfl
theorem cut_pieces {sep : UInt8} (hs : sep ≠ 34 ∧ sep ≠ 92) {a : List UInt8} (b : List UInt8) (h : Piece sep a) : cutL sep (a ++ sep :: b) = a :: cutL sep b := by
  have e := cutF_app hs a.length false a b [] (Nat.le_refl _) h.2
  have h1 := cut_piece h
  unfold cutL at h1 ⊢
  rw [h1] at e
  rw [List.length_append, List.length_cons, show a.length + (b.length + 1) = a.length + 1 + b.length from by omega, e]; rfl

theorem tok_byte {l : List UInt8} (h : tokL l = true) : ∀ c ∈ l, tokI c.toNat = true := by
  unfold tokL at h
  rw [Bool.and_eq_true] at h
  exact fun c hc => List.all_eq_true.mp h.2 c hc
theorem tok_ne {l : List UInt8} (h : tokL l = true) : l ≠ [] := by
  unfold tokL at h
  intro e; rw [e] at h; simp at h
def tokChk (n : Nat) : Bool := !tokI (n : Int) || (UInt8.ofNat n != 34 && UInt8.ofNat n != 59 && UInt8.ofNat n != 61 && UInt8.ofNat n != 44 && !blankB (UInt8.ofNat n))
theorem tok_chk : ∀ x : Fin 256, tokChk x.1 = true := by decide +kernel
theorem tok_chk2 (c : UInt8) : tokChk c.toNat = true := by
  have hc : c.toNat < 256 := c.toNat_lt
  generalize c.toNat = n at hc ⊢
  exact tok_chk ⟨n, hc⟩
theorem tok_not {c : UInt8} (h : tokI c.toNat = true) : c ≠ 34 ∧ c ≠ 59 ∧ c ≠ 61 ∧ c ≠ 44 ∧ blankB c = false := by
  have k := tok_chk2 c
  unfold tokChk at k
  rw [h, UInt8.ofNat_toNat] at k
  simp only [Bool.not_true, Bool.false_or, Bool.and_eq_true, bne_iff_ne, Bool.not_eq_true'] at k
  obtain ⟨⟨⟨⟨k1, k2⟩, k3⟩, k4⟩, k5⟩ := k
  exact ⟨k1, k2, k3, k4, k5⟩
theorem quote_tok (l : List UInt8) : tokL (quoteL l) = false := by
  rcases h : tokL (quoteL l) with _ | _
  · rfl
  · exfalso
    have := tok_byte h 34 (by unfold quoteL; simp)
    exact absurd this (by decide)
theorem val_tok {v : List UInt8} (h : tokL v = true) : valP v = v := by unfold valP; rw [if_pos h]
theorem val_not {v : List UInt8} (h : tokL v = false) : valP v = quoteL v := by unfold valP; rw [h]; rfl
theorem Piece.val (v : List UInt8) {p : List UInt8} (h : Piece 59 p) : Piece 59 (valP v ++ p) := by
  rcases hv : tokL v with _ | _
  · rw [val_not hv]; exact Piece.quote 59 v h
  · rw [val_tok hv]
    exact Piece.plain (fun c hc => ⟨(tok_not (tok_byte hv c hc)).1, (tok_not (tok_byte hv c hc)).2.1⟩) h
theorem Piece.tok {v : List UInt8} (hv : tokL v = true) {p : List UInt8} (h : Piece 59 p) : Piece 59 (v ++ p) :=
  Piece.plain (fun c hc => ⟨(tok_not (tok_byte hv c hc)).1, (tok_not (tok_byte hv c hc)).2.1⟩) h
theorem piece_one {n v : List UInt8} (hn : tokL n = true) : Piece 59 (n ++ 61 :: valP v) := by
  have h := Piece.val v (Piece.nil 59)
  rw [List.append_nil] at h
  exact Piece.tok hn (Piece.cons (by decide) (by decide) h)
/-- a parameter as it is written is read -/
theorem param_read {n v : List UInt8} (hn : tokL n = true) (ht : textL v = true) : paramL (n ++ 61 :: valP v) = some (bs (lowL n), bs v) := by
  obtain ⟨h1, h2, h3⟩ := cut_app (c := 61) (a := n) (b := valP v) (fun hc => (tok_not (tok_byte hn 61 hc)).2.2.1 rfl)
  unfold paramL
  rw [h1, h2, h3, if_neg (by rintro (q | q) <;> simp_all)]
  rcases hv : tokL v with _ | _
  · rw [val_not hv, if_neg (by rw [quote_tok]; simp), unq_quote_text ht]
  · rw [val_tok hv, if_pos hv]
theorem last_val (v : List UInt8) : ∀ c r, valP v = r ++ [c] → blankB c = false := by
  intro c r h
  rcases hv : tokL v with _ | _
  · rw [val_not hv] at h
    unfold quoteL at h
    have e : (34 :: (escL v ++ [34])).getLast? = (r ++ [c]).getLast? := by rw [h]
    rw [show (34 :: (escL v ++ [34])) = (34 :: escL v) ++ [34] from rfl, List.getLast?_append, List.getLast?_append] at e
    simp at e
    subst e; decide
  · rw [val_tok hv] at h
    exact (tok_not (tok_byte hv c (by rw [h]; simp))).2.2.2.2
theorem val_ne (v : List UInt8) : valP v ≠ [] := by
  rcases hv : tokL v with _ | _
  · rw [val_not hv]; unfold quoteL; simp
  · rw [val_tok hv]; exact tok_ne hv
/-- .. and is its own Trim, blanks around it or not -/
theorem trim_one {n v a b : List UInt8} (hn : tokL n = true) (ha : ∀ c ∈ a, blankB c = true) (hb : ∀ c ∈ b, blankB c = true) : trimL (a ++ ((n ++ 61 :: valP v) ++ b)) = n ++ 61 :: valP v := by
  refine trim_char a (n ++ 61 :: valP v) b ha hb ?_ ?_
  · intro c r h
    match n, hn, h with
    | d :: n', hn, h =>
      simp only [List.cons_append, List.cons.injEq] at h
      obtain ⟨rfl, _⟩ := h
      exact (tok_not (tok_byte hn _ (by simp))).2.2.2.2
    | [], hn, _ => exact absurd rfl (tok_ne hn)
  · intro c r h
    have e : (n ++ 61 :: valP v).getLast? = (r ++ [c]).getLast? := by rw [h]
    have e2 : (valP v).getLast? = some c := by
      rw [show n ++ 61 :: valP v = (n ++ [61]) ++ valP v from by simp, List.getLast?_append, List.getLast?_append] at e
      cases hl : (valP v).getLast? with
      | none => exact absurd (List.getLast?_eq_none_iff.mp hl) (val_ne v)
      | some d => rw [hl] at e; simpa using e
    obtain ⟨r2, hr2⟩ := List.getLast?_eq_some_iff.mp e2
    exact last_val v c r2 hr2
theorem trim_tok {v a b : List UInt8} (hv : tokL v = true) (ha : ∀ c ∈ a, blankB c = true) (hb : ∀ c ∈ b, blankB c = true) : trimL (a ++ (v ++ b)) = v :=
  trim_char a v b ha hb (fun c r h => (tok_not (tok_byte hv c (by rw [h]; simp))).2.2.2.2) (fun c r h => (tok_not (tok_byte hv c (by rw [h]; simp))).2.2.2.2)

end Go.Proofs.Ytlcojfkkeommoaa.Asc
