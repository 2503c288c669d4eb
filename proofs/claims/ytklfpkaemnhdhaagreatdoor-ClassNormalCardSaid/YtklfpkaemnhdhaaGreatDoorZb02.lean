/- Merged texts: ParSpec ParSpec2 ParSpec3 MedSpec MedSpec2 LanSpec CodSpec QvaSpec AscBytes AscTok. -/
import Derived.Test.YtklfpkaemnhdhaaGreatDoorRows
import Derived.Test.YtklfpkaemnhdhaaGreatDoorZb01
import Derived.LoopTactic
import Derived.Outline
import Derived.WalkKit
import Derived.WalkLawsBesides
import Derived.WalkSpells
set_option linter.unusedVariables false
set_option linter.unusedSimpArgs false
set_option maxRecDepth 100000
namespace Go.Proofs.YtklfpkaemnhdhaaGreatDoor.Asc
section
/-- a parameter: name, '=', a token or a quoted string -/
def paramL (x : List UInt8) : Option F :=
  if cutB 61 x = false ∨ tokL (cut1 61 x) = false then none
  else if tokL (cut2 61 x) = true then some (bs (lowL (cut1 61 x)), bs (cut2 61 x))
  else match unqL (cut2 61 x) with
    | some u => some (bs (lowL (cut1 61 x)), bs u)
    | none => none
/-- the parameters of pieces; those before them -/
def parF : List (List UInt8) → List F → Option (List F)
  | [], acc => some acc
  | p :: ps, acc => if trimL p = [] then parF ps acc else match paramL (trimL p) with
    | some f => parF ps (acc ++ [f])
    | none => none
def parL (s : List UInt8) : Option (List UInt8 × List F) := match cutL 59 s with
  | [] => none
  | v :: ps => if trimL v = [] then none else match parF ps [] with
    | some L => some (trimL v, L)
    | none => none
def valP (v : List UInt8) : List UInt8 := if tokL v = true then v else quoteL v
def oneP (p : F) : List UInt8 := p.1.data.toList ++ 61 :: valP p.2.data.toList
def fmtPL (v : List UInt8) (L : List F) : List UInt8 := v ++ L.flatMap fun p => 59 :: oneP p
/-- is a byte behind the list within a quoted string? (as endF, with its own length) -/
def endQ (q : Bool) (l : List UInt8) : Bool := endF l.length q l
theorem endF_fuel : ∀ (f g : Nat) (q : Bool) (l : List UInt8), l.length ≤ f → l.length ≤ g → endF f q l = endF g q l := by
  intro f
  induction f with
  | zero => intro g q l hf hg; have : l = [] := List.eq_nil_of_length_eq_zero (by omega); subst this; rw [endF_nil, endF_nil]
  | succ f ih =>
    intro g q l hf hg
    match l, g with
    | [], g => rw [endF_nil, endF_nil]
    | c :: r, 0 => simp at hg
    | c :: r, g + 1 =>
      simp only [List.length_cons] at hf hg
      rw [endF_cons, endF_cons]
      split
      · match r, hf, hg with
        | [], _, _ => rfl
        | d :: r2, hf, hg =>
          simp only [List.length_cons] at hf hg
          exact ih g q r2 (by omega) (by omega)
      · split
        · exact ih g (!q) r (by omega) (by omega)
        · exact ih g q r (by omega) (by omega)
theorem endL_esc (d : UInt8) (r : List UInt8) : endQ true (92 :: d :: r) = endQ true r := by
  unfold endQ
  show endF (r.length + 1 + 1) true (92 :: d :: r) = _
  rw [endF_cons, if_pos ⟨rfl, rfl⟩]
  exact endF_fuel _ _ _ _ (by omega) (by omega)
theorem endL_quo {q : Bool} {c : UInt8} {r : List UInt8} (h1 : ¬ (q = true ∧ c = 92)) (h : c = 34) : endQ q (c :: r) = endQ (!q) r := by
  unfold endQ
  show endF (r.length + 1) q (c :: r) = _
  rw [endF_cons, if_neg h1, if_pos h]
theorem endL_any {q : Bool} {c : UInt8} {r : List UInt8} (h1 : ¬ (q = true ∧ c = 92)) (h : c ≠ 34) : endQ q (c :: r) = endQ q r := by
  unfold endQ
  show endF (r.length + 1) q (c :: r) = _
  rw [endF_cons, if_neg h1, if_neg h]
/-- what has been escaped, a quote behind it, leads out of the quoted string -/
theorem end_quoted (y : List UInt8) : ∀ l : List UInt8, endQ true (escL l ++ 34 :: y) = endQ false y
  | [] => endL_quo (by simp) rfl
  | c :: r => by
    have e : escL (c :: r) = escB c ++ escL r := rfl
    rw [e]
    unfold escB
    by_cases h : c = 34 ∨ c = 92
    · rw [if_pos h]
      show endQ true (92 :: c :: (escL r ++ 34 :: y)) = _
      rw [endL_esc]; exact end_quoted y r
    · rw [if_neg h]
      show endQ true (c :: (escL r ++ 34 :: y)) = _
      rw [endL_any (fun q => h (.inr q.2)) (fun q => h (.inl q))]; exact end_quoted y r
theorem nc_quoted (sep : UInt8) (y : List UInt8) : ∀ l : List UInt8, ncL sep true (escL l ++ 34 :: y) = ncL sep false y
  | [] => nc_quo (by simp) rfl
  | c :: r => by
    have e : escL (c :: r) = escB c ++ escL r := rfl
    rw [e]
    unfold escB
    by_cases h : c = 34 ∨ c = 92
    · rw [if_pos h]
      show ncL sep true (92 :: c :: (escL r ++ 34 :: y)) = _
      rw [nc_esc ⟨rfl, rfl⟩]; exact nc_quoted sep y r
    · rw [if_neg h]
      show ncL sep true (c :: (escL r ++ 34 :: y)) = _
      rw [nc_any (fun q => h (.inr q.2)) (fun q => h (.inl q)) (by simp)]; exact nc_quoted sep y r
/-- a piece: no separator outside quoted strings, none of which is open at its end -/
def Piece (sep : UInt8) (p : List UInt8) : Prop := ncL sep false p = true ∧ endQ false p = false
theorem Piece.nil (sep : UInt8) : Piece sep [] := ⟨rfl, rfl⟩
theorem Piece.cons {sep c : UInt8} {p : List UInt8} (h1 : c ≠ 34) (h2 : c ≠ sep) (h : Piece sep p) : Piece sep (c :: p) :=
  ⟨by rw [nc_any (by simp) h1 (fun q => h2 q.1)]; exact h.1, by rw [endL_any (by simp) h1]; exact h.2⟩
theorem Piece.plain {sep : UInt8} : ∀ {a p : List UInt8}, (∀ c ∈ a, c ≠ 34 ∧ c ≠ sep) → Piece sep p → Piece sep (a ++ p)
  | [], p, _, h => h
  | c :: r, p, ha, h => Piece.cons (ha c (by simp)).1 (ha c (by simp)).2 (Piece.plain (fun d hd => ha d (by simp [hd])) h)
theorem Piece.quote (sep : UInt8) (l : List UInt8) {p : List UInt8} (h : Piece sep p) : Piece sep (quoteL l ++ p) := by
  have e : quoteL l ++ p = 34 :: (escL l ++ 34 :: p) := by unfold quoteL; simp
  rw [e]
  exact ⟨by rw [nc_quo (by simp) rfl]; exact (nc_quoted sep p l).trans h.1, by rw [endL_quo (by simp) rfl]; exact (end_quoted p l).trans h.2⟩
theorem cut_piece {sep : UInt8} {a : List UInt8} (h : Piece sep a) : cutL sep a = [a] := by
  unfold cutL; rw [nc_cut _ false _ [] (Nat.le_refl _) h.1]; rfl
theorem cut_pieces {sep : UInt8} (hs : sep ≠ 34 ∧ sep ≠ 92) {a : List UInt8} (b : List UInt8) (h : Piece sep a) : cutL sep (a ++ sep :: b) = a :: cutL sep b := by
  have e := cutF_app hs a.length false a b [] (Nat.le_refl _) h.2
  have h1 := cut_piece h
  unfold cutL at h1 ⊢
  rw [h1] at e
  rw [List.length_append, List.length_cons, show a.length + (b.length + 1) = a.length + 1 + b.length from by omega, e]; rfl
theorem tok_byte {l : List UInt8} (h : tokL l = true) : ∀ c ∈ l, tokI c.toNat = true := by
  unfold tokL at h
  rw [Bool.and_eq_true] at h
  exact fun c hc => List.all_eq_true.mp h.2 c hc
theorem tok_ne {l : List UInt8} (h : tokL l = true) : l ≠ [] := by
  unfold tokL at h
  intro e; rw [e] at h; simp at h
def tokChk (n : Nat) : Bool := !tokI (n : Int) || (UInt8.ofNat n != 34 && UInt8.ofNat n != 59 && UInt8.ofNat n != 61 && UInt8.ofNat n != 44 && !blankB (UInt8.ofNat n))
theorem tok_chk : ∀ x : Fin 256, tokChk x.1 = true := by decide +kernel
theorem tok_chk2 (c : UInt8) : tokChk c.toNat = true := by
  have hc : c.toNat < 256 := c.toNat_lt
  generalize c.toNat = n at hc ⊢
  exact tok_chk ⟨n, hc⟩
theorem tok_not {c : UInt8} (h : tokI c.toNat = true) : c ≠ 34 ∧ c ≠ 59 ∧ c ≠ 61 ∧ c ≠ 44 ∧ blankB c = false := by
  have k := tok_chk2 c
  unfold tokChk at k
  rw [h, UInt8.ofNat_toNat] at k
  simp only [Bool.not_true, Bool.false_or, Bool.and_eq_true, bne_iff_ne, Bool.not_eq_true'] at k
  obtain ⟨⟨⟨⟨k1, k2⟩, k3⟩, k4⟩, k5⟩ := k
  exact ⟨k1, k2, k3, k4, k5⟩
theorem quote_tok (l : List UInt8) : tokL (quoteL l) = false := by
  rcases h : tokL (quoteL l) with _ | _
  · rfl
  · exfalso
    have := tok_byte h 34 (by unfold quoteL; simp)
    exact absurd this (by decide)
theorem val_tok {v : List UInt8} (h : tokL v = true) : valP v = v := by unfold valP; rw [if_pos h]
theorem val_not {v : List UInt8} (h : tokL v = false) : valP v = quoteL v := by unfold valP; rw [h]; rfl
theorem Piece.val (v : List UInt8) {p : List UInt8} (h : Piece 59 p) : Piece 59 (valP v ++ p) := by
  rcases hv : tokL v with _ | _
  · rw [val_not hv]; exact Piece.quote 59 v h
  · rw [val_tok hv]
    exact Piece.plain (fun c hc => ⟨(tok_not (tok_byte hv c hc)).1, (tok_not (tok_byte hv c hc)).2.1⟩) h
theorem Piece.tok {v : List UInt8} (hv : tokL v = true) {p : List UInt8} (h : Piece 59 p) : Piece 59 (v ++ p) :=
  Piece.plain (fun c hc => ⟨(tok_not (tok_byte hv c hc)).1, (tok_not (tok_byte hv c hc)).2.1⟩) h
theorem piece_one {n v : List UInt8} (hn : tokL n = true) : Piece 59 (n ++ 61 :: valP v) := by
  have h := Piece.val v (Piece.nil 59)
  rw [List.append_nil] at h
  exact Piece.tok hn (Piece.cons (by decide) (by decide) h)
/-- a parameter as it is written is read -/
theorem param_read {n v : List UInt8} (hn : tokL n = true) (ht : textL v = true) : paramL (n ++ 61 :: valP v) = some (bs (lowL n), bs v) := by
  obtain ⟨h1, h2, h3⟩ := cut_app (c := 61) (a := n) (b := valP v) (fun hc => (tok_not (tok_byte hn 61 hc)).2.2.1 rfl)
  unfold paramL
  rw [h1, h2, h3, if_neg (by rintro (q | q) <;> simp_all)]
  rcases hv : tokL v with _ | _
  · rw [val_not hv, if_neg (by rw [quote_tok]; simp), unq_quote_text ht]
  · rw [val_tok hv, if_pos hv]
theorem last_val (v : List UInt8) : ∀ c r, valP v = r ++ [c] → blankB c = false := by
  intro c r h
  rcases hv : tokL v with _ | _
  · rw [val_not hv] at h
    unfold quoteL at h
    have e : (34 :: (escL v ++ [34])).getLast? = (r ++ [c]).getLast? := by rw [h]
    rw [show (34 :: (escL v ++ [34])) = (34 :: escL v) ++ [34] from rfl, List.getLast?_append, List.getLast?_append] at e
    simp at e
    subst e; decide
  · rw [val_tok hv] at h
    exact (tok_not (tok_byte hv c (by rw [h]; simp))).2.2.2.2
theorem val_ne (v : List UInt8) : valP v ≠ [] := by
  rcases hv : tokL v with _ | _
  · rw [val_not hv]; unfold quoteL; simp
  · rw [val_tok hv]; exact tok_ne hv
/-- .. and is its own Trim, blanks around it or not -/
theorem trim_one {n v a b : List UInt8} (hn : tokL n = true) (ha : ∀ c ∈ a, blankB c = true) (hb : ∀ c ∈ b, blankB c = true) : trimL (a ++ ((n ++ 61 :: valP v) ++ b)) = n ++ 61 :: valP v := by
  refine trim_char a (n ++ 61 :: valP v) b ha hb ?_ ?_
  · intro c r h
    match n, hn, h with
    | d :: n', hn, h =>
      simp only [List.cons_append, List.cons.injEq] at h
      obtain ⟨rfl, _⟩ := h
      exact (tok_not (tok_byte hn _ (by simp))).2.2.2.2
    | [], hn, _ => exact absurd rfl (tok_ne hn)
  · intro c r h
    have e : (n ++ 61 :: valP v).getLast? = (r ++ [c]).getLast? := by rw [h]
    have e2 : (valP v).getLast? = some c := by
      rw [show n ++ 61 :: valP v = (n ++ [61]) ++ valP v from by simp, List.getLast?_append, List.getLast?_append] at e
      cases hl : (valP v).getLast? with
      | none => exact absurd (List.getLast?_eq_none_iff.mp hl) (val_ne v)
      | some d => rw [hl] at e; simpa using e
    obtain ⟨r2, hr2⟩ := List.getLast?_eq_some_iff.mp e2
    exact last_val v c r2 hr2
theorem trim_tok {v a b : List UInt8} (hv : tokL v = true) (ha : ∀ c ∈ a, blankB c = true) (hb : ∀ c ∈ b, blankB c = true) : trimL (a ++ (v ++ b)) = v :=
  trim_char a v b ha hb (fun c r h => (tok_not (tok_byte hv c (by rw [h]; simp))).2.2.2.2) (fun c r h => (tok_not (tok_byte hv c (by rw [h]; simp))).2.2.2.2)
end
section
theorem sep59 : (59 : UInt8) ≠ 34 ∧ (59 : UInt8) ≠ 92 := by decide
theorem cut_fmt : ∀ (L : List F) (a : List UInt8), Piece 59 a → (∀ p ∈ L, tokL p.1.data.toList = true) → cutL 59 (a ++ L.flatMap fun p => 59 :: oneP p) = a :: L.map oneP
  | [], a, h, _ => by simp only [List.flatMap_nil, List.append_nil, List.map_nil]; exact cut_piece h
  | p :: L, a, h, hL => by
    have e : a ++ (p :: L).flatMap (fun p => 59 :: oneP p) = a ++ 59 :: (oneP p ++ L.flatMap fun p => 59 :: oneP p) := by simp
    rw [e, cut_pieces sep59 _ h, cut_fmt L (oneP p) (piece_one (hL p (by simp))) (fun q hq => hL q (by simp [hq]))]
    rfl
theorem one_ne (p : F) : oneP p ≠ [] := by unfold oneP; simp
theorem parF_step {p : List UInt8} {ps : List (List UInt8)} {acc : List F} {f : F} (h0 : trimL p ≠ []) (h : paramL (trimL p) = some f) : parF (p :: ps) acc = parF ps (acc ++ [f]) := by
  show (if trimL p = [] then parF ps acc else match paramL (trimL p) with | some f => parF ps (acc ++ [f]) | none => none) = _
  rw [if_neg h0, h]
theorem parF_skip {p : List UInt8} {ps : List (List UInt8)} {acc : List F} (h0 : trimL p = []) : parF (p :: ps) acc = parF ps acc := by
  show (if trimL p = [] then parF ps acc else match paramL (trimL p) with | some f => parF ps (acc ++ [f]) | none => none) = _
  rw [if_pos h0]
theorem parF_ones : ∀ (L : List F) (acc : List F), (∀ p ∈ L, tokL p.1.data.toList = true ∧ lowL p.1.data.toList = p.1.data.toList ∧ textL p.2.data.toList = true) → parF (L.map oneP) acc = some (acc ++ L)
  | [], acc, _ => by simp [parF]
  | p :: L, acc, h => by
    obtain ⟨h1, h2, h3⟩ := h p (by simp)
    have ht : trimL (oneP p) = oneP p := by
      have := trim_one (n := p.1.data.toList) (v := p.2.data.toList) (a := []) (b := []) h1 (by simp) (by simp)
      rw [List.nil_append, List.append_nil] at this
      exact this
    have hp : paramL (trimL (oneP p)) = some p := by
      rw [ht]
      have := param_read (n := p.1.data.toList) (v := p.2.data.toList) h1 h3
      rw [h2] at this
      exact this
    rw [List.map_cons, parF_step (by rw [ht]; exact one_ne p) hp, parF_ones L _ (fun q hq => h q (by simp [hq]))]
    simp
end
section
def parA (l : List UInt8) : ByteArray := match parL l with | some (v, _) => bs v | none => ⟨#[]⟩
def parB (l : List UInt8) : List F := match parL l with | some (_, L) => L | none => []
def parO (l : List UInt8) : Bool := (parL l).isSome
theorem cutF_ne {sep : UInt8} : ∀ (f : Nat) (q : Bool) (l acc : List UInt8), cutF sep f q l acc ≠ []
  | f, q, [], acc => by rw [cutF_nil]; simp
  | 0, q, c :: r, acc => by unfold cutF; simp
  | f + 1, q, c :: r, acc => by
    rw [cutF_cons]
    split
    · match r with
      | [] => simp
      | d :: r2 => exact cutF_ne f q r2 _
    · split
      · exact cutF_ne f (!q) r _
      · split
        · simp
        · exact cutF_ne f q r _
theorem cut_first (sep : UInt8) (l : List UInt8) : ∃ v ps, cutL sep l = v :: ps := by
  cases h : cutL sep l with
  | nil => exact absurd h (cutF_ne _ _ _ _)
  | cons v ps => exact ⟨v, ps, rfl⟩
theorem par_none0 {l v : List UInt8} {ps : List (List UInt8)} (h : cutL 59 l = v :: ps) (ht : trimL v = []) : parA l = ⟨#[]⟩ ∧ parB l = [] ∧ parO l = false := by
  unfold parA parB parO parL; rw [h]; simp only; rw [if_pos ht]; exact ⟨rfl, rfl, rfl⟩
theorem par_none1 {l v : List UInt8} {ps : List (List UInt8)} (h : cutL 59 l = v :: ps) (ht : trimL v ≠ []) (hp : parF ps [] = none) : parA l = ⟨#[]⟩ ∧ parB l = [] ∧ parO l = false := by
  unfold parA parB parO parL; rw [h]; simp only; rw [if_neg ht, hp]; exact ⟨rfl, rfl, rfl⟩
theorem par_some {l v : List UInt8} {ps : List (List UInt8)} {L : List F} (h : cutL 59 l = v :: ps) (ht : trimL v ≠ []) (hp : parF ps [] = some L) : parA l = bs (trimL v) ∧ parB l = L ∧ parO l = true := by
  unfold parA parB parO parL; rw [h]; simp only; rw [if_neg ht, hp]; exact ⟨rfl, rfl, rfl⟩
theorem parF_bad {p : List UInt8} {ps : List (List UInt8)} {acc : List F} (h0 : trimL p ≠ []) (h : paramL (trimL p) = none) : parF (p :: ps) acc = none := by
  show (if trimL p = [] then parF ps acc else match paramL (trimL p) with | some f => parF ps (acc ++ [f]) | none => none) = _
  rw [if_neg h0, h]
/-- one parameter, by the place of its '=' -/
theorem param_no {x : List UInt8} (h : Lib.indexByte x 61 = -1) : paramL x = none := by
  unfold paramL; rw [if_pos (.inl (cut_no h).2.2)]
theorem param_name {x : List UInt8} {o : Nat} (h : Lib.indexByte x 61 = (o : Int)) (ht : tokL (x.take o) = false) : paramL x = none := by
  obtain ⟨_, h1, _, _⟩ := cut_at h
  unfold paramL; rw [h1, if_pos (.inr ht)]
theorem param_tok {x : List UInt8} {o : Nat} (h : Lib.indexByte x 61 = (o : Int)) (ht : tokL (x.take o) = true) (hv : tokL (x.drop (o + 1)) = true) : paramL x = some (bs (lowL (x.take o)), bs (x.drop (o + 1))) := by
  obtain ⟨_, h1, h2, h3⟩ := cut_at h
  unfold paramL; rw [h1, h2, h3, if_neg (by rw [ht]; simp), if_pos hv]
theorem param_bad {x : List UInt8} {o : Nat} (h : Lib.indexByte x 61 = (o : Int)) (ht : tokL (x.take o) = true) (hv : tokL (x.drop (o + 1)) = false) (hu : unqL (x.drop (o + 1)) = none) : paramL x = none := by
  obtain ⟨_, h1, h2, h3⟩ := cut_at h
  unfold paramL; rw [h1, h2, h3, if_neg (by rw [ht]; simp), if_neg (by rw [hv]; simp), hu]
theorem param_quo {x u : List UInt8} {o : Nat} (h : Lib.indexByte x 61 = (o : Int)) (ht : tokL (x.take o) = true) (hv : tokL (x.drop (o + 1)) = false) (hu : unqL (x.drop (o + 1)) = some u) : paramL x = some (bs (lowL (x.take o)), bs u) := by
  obtain ⟨_, h1, h2, h3⟩ := cut_at h
  unfold paramL; rw [h1, h2, h3, if_neg (by rw [ht]; simp), if_neg (by rw [hv]; simp), hu]
end
section
/-- type, sub, parameters -/
abbrev M := ByteArray × ByteArray × List F
def typeL (v : List UInt8) : Option (ByteArray × ByteArray) :=
  if cutB 47 v = false then none
  else if tokL (cut1 47 v) = false then none
  else if tokL (cut2 47 v) = false then none
  else if cut1 47 v = [42] ∧ cut2 47 v ≠ [42] then none
  else some (bs (lowL (cut1 47 v)), bs (lowL (cut2 47 v)))
def rangeL (s : List UInt8) : Option M := match parL s with
  | none => none
  | some (v, L) => match typeL v with
    | none => none
    | some (a, b) => some (a, b, L)
def star : ByteArray := ⟨#[42]⟩
def mediaL (s : List UInt8) : Option M := match rangeL s with
  | none => none
  | some (a, b, L) => if a = star ∨ b = star then none else some (a, b, L)
def noM : M := (⟨#[]⟩, ⟨#[]⟩, [])
/-- the results in parts -/
def ofM (o : Option M) : M := o.getD noM
theorem type_no {v : List UInt8} (h : Lib.indexByte v 47 = -1) : typeL v = none := by
  unfold typeL; rw [if_pos (cut_no h).2.2]
theorem type_tok1 {v : List UInt8} {o : Nat} (h : Lib.indexByte v 47 = (o : Int)) (h1 : tokL (v.take o) = false) : typeL v = none := by
  obtain ⟨_, e1, e2, e3⟩ := cut_at h
  unfold typeL; rw [e1, e3, if_neg (by simp), if_pos h1]
theorem type_tok2 {v : List UInt8} {o : Nat} (h : Lib.indexByte v 47 = (o : Int)) (h1 : tokL (v.take o) = true) (h2 : tokL (v.drop (o + 1)) = false) : typeL v = none := by
  obtain ⟨_, e1, e2, e3⟩ := cut_at h
  unfold typeL; rw [e1, e2, e3, if_neg (by simp), if_neg (by rw [h1]; simp), if_pos h2]
theorem type_star {v : List UInt8} {o : Nat} (h : Lib.indexByte v 47 = (o : Int)) (h1 : tokL (v.take o) = true) (h2 : tokL (v.drop (o + 1)) = true) (h3 : v.take o = [42] ∧ v.drop (o + 1) ≠ [42]) : typeL v = none := by
  obtain ⟨_, e1, e2, e3⟩ := cut_at h
  unfold typeL; rw [e1, e2, e3, if_neg (by simp), if_neg (by rw [h1]; simp), if_neg (by rw [h2]; simp), if_pos h3]
theorem type_ok {v : List UInt8} {o : Nat} (h : Lib.indexByte v 47 = (o : Int)) (h1 : tokL (v.take o) = true) (h2 : tokL (v.drop (o + 1)) = true) (h3 : ¬ (v.take o = [42] ∧ v.drop (o + 1) ≠ [42])) : typeL v = some (bs (lowL (v.take o)), bs (lowL (v.drop (o + 1)))) := by
  obtain ⟨_, e1, e2, e3⟩ := cut_at h
  unfold typeL; rw [e1, e2, e3, if_neg (by simp), if_neg (by rw [h1]; simp), if_neg (by rw [h2]; simp), if_neg h3]
theorem range_par {s : List UInt8} (h : parO s = false) : rangeL s = none := by
  unfold parO at h; unfold rangeL
  cases hp : parL s with
  | none => rfl
  | some x => rw [hp] at h; simp at h
theorem range_type {s : List UInt8} {v : ByteArray} (h : parO s = true) (hv : parA s = v) : rangeL s = (typeL v.data.toList).map fun p => (p.1, p.2, parB s) := by
  unfold parO at h; unfold rangeL; unfold parA at hv; unfold parB
  cases hp : parL s with
  | none => rw [hp] at h; simp at h
  | some x =>
    obtain ⟨a, L⟩ := x
    rw [hp] at hv
    simp only at hv ⊢
    subst hv
    rw [bs_toList]
    cases typeL a with
    | none => rfl
    | some p => rfl
end
section
def chkT (n : Nat) : Bool := !tokI (n : Int) || (textI (n : Int) && tokI (lowB (UInt8.ofNat n)).toNat && UInt8.ofNat n != 47 && ((lowB (UInt8.ofNat n) == 42) == (UInt8.ofNat n == 42)) && !blankB (UInt8.ofNat n))
theorem chkT_all : ∀ x : Fin 256, chkT x.1 = true := by decide +kernel
theorem tok_more {c : UInt8} (h : tokI c.toNat = true) : textI c.toNat = true ∧ tokI (lowB c).toNat = true ∧ c ≠ 47 ∧ (lowB c = 42 ↔ c = 42) ∧ blankB c = false := by
  have k := chkT_all ⟨c.toNat, c.toNat_lt⟩
  unfold chkT at k
  simp only [UInt8.ofNat_toNat] at k
  rw [h] at k
  simp at k
  obtain ⟨⟨⟨⟨k1, k2⟩, k3⟩, k4⟩, k5⟩ := k
  exact ⟨k1, k2, k3, by rw [← beq_iff_eq, k4, beq_iff_eq], k5⟩
theorem tok_mk {l : List UInt8} (h0 : l ≠ []) (h : ∀ c ∈ l, tokI c.toNat = true) : tokL l = true := by
  unfold tokL allI
  rw [Bool.and_eq_true, List.all_eq_true]
  refine ⟨?_, h⟩
  cases l with
  | nil => exact absurd rfl h0
  | cons c r => rfl
theorem text_mk {l : List UInt8} (h : ∀ c ∈ l, textI c.toNat = true) : textL l = true := by
  unfold textL allI; rw [List.all_eq_true]; exact h
theorem text_byte {l : List UInt8} (h : textL l = true) : ∀ c ∈ l, textI c.toNat = true := by
  unfold textL allI at h; rw [List.all_eq_true] at h; exact h
theorem tok_text {l : List UInt8} (h : tokL l = true) : textL l = true := text_mk fun c hc => (tok_more (tok_byte h c hc)).1
theorem tok_low {l : List UInt8} (h : tokL l = true) : tokL (lowL l) = true := by
  refine tok_mk ?_ ?_
  · rw [lowL_map]; intro e; exact tok_ne h (List.map_eq_nil_iff.1 e)
  · intro c hc
    rw [lowL_map] at hc
    obtain ⟨d, hd, rfl⟩ := List.mem_map.1 hc
    exact (tok_more (tok_byte h d hd)).2.1
theorem low_star {l : List UInt8} (h : tokL l = true) : lowL l = [42] ↔ l = [42] := by
  rw [lowL_map]
  match l, h with
  | [c], h =>
    have := (tok_more (tok_byte h c (by simp))).2.2.2.1
    simp [this]
  | [], h => exact absurd rfl (tok_ne h)
  | _ :: _ :: _, h => simp
theorem tok_no47 {l : List UInt8} (h : tokL l = true) : (47 : UInt8) ∉ l := fun hc => (tok_more (tok_byte h 47 hc)).2.2.1 rfl
theorem unesc_facts : ∀ (n : Nat) (l t : List UInt8), l.length ≤ n → unescL l = some t → t.length ≤ l.length ∧ (textL l = true → textL t = true)
  | n, [], t, _, h => by unfold unescL at h; cases h; exact ⟨Nat.le_refl _, fun _ => rfl⟩
  | 0, c :: r, t, hl, _ => by simp at hl
  | n + 1, c :: r, t, hl, h => by
    simp only [List.length_cons] at hl
    by_cases h34 : c = 34
    · rw [h34, unescL_q] at h; cases h
    · by_cases h92 : c = 92
      · subst h92
        match r, hl, h with
        | [], _, h => rw [unescL_e] at h; cases h
        | d :: r, hl, h =>
          rw [unescL_b] at h
          obtain ⟨u, hu, rfl⟩ := Option.map_eq_some_iff.1 h
          simp only [List.length_cons] at hl
          obtain ⟨i1, i2⟩ := unesc_facts n r u (by omega) hu
          refine ⟨by simp only [List.length_cons]; omega, fun ht => text_mk ?_⟩
          have hb := text_byte ht
          intro x hx
          rcases List.mem_cons.1 hx with rfl | hx
          · exact hb _ (by simp)
          · exact text_byte (i2 (text_mk fun y hy => hb y (by simp [hy]))) x hx
      · rw [unescL_o c r h34 h92] at h
        obtain ⟨u, hu, rfl⟩ := Option.map_eq_some_iff.1 h
        obtain ⟨i1, i2⟩ := unesc_facts n r u (by omega) hu
        refine ⟨by simp only [List.length_cons]; omega, fun ht => text_mk ?_⟩
        have hb := text_byte ht
        intro x hx
        rcases List.mem_cons.1 hx with rfl | hx
        · exact hb _ (by simp)
        · exact text_byte (i2 (text_mk fun y hy => hb y (by simp [hy]))) x hx
theorem unq_facts {l t : List UInt8} (h : unqL l = some t) : t.length ≤ l.length ∧ textL t = true := by
  unfold unqL at h
  split at h
  · cases h
  · unfold unqIn at h
    split at h
    · rename_i ht
      obtain ⟨i1, i2⟩ := unesc_facts _ _ t (Nat.le_refl _) h
      refine ⟨?_, i2 ht⟩
      simp only [List.length_drop, List.length_take] at i1
      omega
    · cases h
theorem lowL_len (l : List UInt8) : (lowL l).length = l.length := by simp [lowL]
theorem cut_sizes10 {c : UInt8} {l : List UInt8} : (cut1 c l).length + (cut2 c l).length ≤ l.length := by
  unfold cut1 cut2
  have := congrArg List.length (List.takeWhile_append_dropWhile (p := (· != c)) (l := l))
  rw [List.length_append] at this
  rw [List.length_drop]; omega
/-- name in lower case, a token; the value a text -/
def GoodP (p : F) : Prop := tokL p.1.data.toList = true ∧ lowL p.1.data.toList = p.1.data.toList ∧ textL p.2.data.toList = true
theorem param_facts {x : List UInt8} {p : F} (h : paramL x = some p) : GoodP p ∧ p.1.size + p.2.size ≤ x.length := by
  have hs := cut_sizes10 (c := 61) (l := x)
  have hlow : (lowL (cut1 61 x)).length = (cut1 61 x).length := lowL_len _
  unfold paramL at h
  split at h
  · cases h
  · rename_i hc
    have ht : tokL (cut1 61 x) = true := by
      cases hh : tokL (cut1 61 x) with
      | true => rfl
      | false => exact absurd (.inr hh) hc
    split at h
    · rename_i hv
      cases h
      exact ⟨⟨tok_low ht, low_low _, tok_text hv⟩, by rw [bs_size, bs_size]; omega⟩
    · cases hu : unqL (cut2 61 x) with
      | none => rw [hu] at h; cases h
      | some u =>
        rw [hu] at h; cases h
        obtain ⟨u1, u2⟩ := unq_facts hu
        exact ⟨⟨tok_low ht, low_low _, u2⟩, by rw [bs_size, bs_size]; omega⟩
def szF (L : List F) : Nat := (L.map fun p => p.1.size + p.2.size).sum
theorem parF_facts : ∀ (ps : List (List UInt8)) (acc L : List F), parF ps acc = some L → (∀ p ∈ acc, GoodP p) → (∀ p ∈ L, GoodP p) ∧ szF L ≤ szF acc + (ps.map List.length).sum ∧ L.length ≤ acc.length + ps.length
  | [], acc, L, h, ha => by unfold parF at h; cases h; exact ⟨ha, by simp, by simp⟩
  | p :: ps, acc, L, h, ha => by
    unfold parF at h
    split at h
    · obtain ⟨i1, i2, i3⟩ := parF_facts ps acc L h ha
      exact ⟨i1, by simp only [List.map_cons, List.sum_cons]; omega, by simp only [List.length_cons]; omega⟩
    · cases hp : paramL (trimL p) with
      | none => rw [hp] at h; cases h
      | some f =>
        rw [hp] at h
        obtain ⟨g1, g2⟩ := param_facts hp
        have ht := trim_le p
        obtain ⟨i1, i2, i3⟩ := parF_facts ps (acc ++ [f]) L h (fun q hq => by
          rcases List.mem_append.1 hq with hq | hq
          · exact ha q hq
          · rw [List.mem_singleton.1 hq]; exact g1)
        refine ⟨i1, ?_, ?_⟩
        · have e : szF (acc ++ [f]) = szF acc + (f.1.size + f.2.size) := by simp [szF]
          rw [e] at i2
          simp only [List.map_cons, List.sum_cons]; omega
        · simp only [List.length_append, List.length_cons, List.length_nil] at i3 ⊢; omega
theorem cut_sum {sep : UInt8} : ∀ (f : Nat) (q : Bool) (l acc : List UInt8), ((cutF sep f q l acc).map List.length).sum ≤ acc.length + l.length
  | f, q, [], acc => by rw [cutF_nil]; simp
  | 0, q, c :: r, acc => by unfold cutF; simp
  | f + 1, q, c :: r, acc => by
    rw [cutF_cons]
    split
    · match r with
      | [] => simp
      | d :: r2 =>
        have := cut_sum (sep := sep) f q r2 (acc ++ [c, d])
        simp only [List.length_append, List.length_cons, List.length_nil] at this ⊢; omega
    · split
      · have := cut_sum (sep := sep) f (!q) r (acc ++ [c])
        simp only [List.length_append, List.length_cons, List.length_nil] at this ⊢; omega
      · split
        · have := cut_sum (sep := sep) f q r []
          simp only [List.map_cons, List.sum_cons, List.length_cons, List.length_nil] at this ⊢; omega
        · have := cut_sum (sep := sep) f q r (acc ++ [c])
          simp only [List.length_append, List.length_cons, List.length_nil] at this ⊢; omega
theorem par_facts {s v : List UInt8} {L : List F} (h : parL s = some (v, L)) : (∀ p ∈ L, GoodP p) ∧ v.length + szF L ≤ s.length ∧ L.length ≤ s.length ∧ trimL v = v ∧ v ≠ [] := by
  unfold parL at h
  cases hc : cutL 59 s with
  | nil => rw [hc] at h; cases h
  | cons x ps =>
    rw [hc] at h
    simp only at h
    split at h
    · cases h
    · rename_i hx
      cases hp : parF ps [] with
      | none => rw [hp] at h; cases h
      | some K =>
        rw [hp] at h
        cases h
        obtain ⟨i1, i2, i3⟩ := parF_facts ps [] L hp (by simp)
        have hsum := cut_sum (sep := 59) s.length false s []
        have hcnt := cut_count (sep := 59) s.length false s []
        rw [show cutF 59 s.length false s [] = x :: ps from hc] at hsum hcnt
        simp only [List.map_cons, List.sum_cons, List.length_nil, List.length_cons] at hsum hcnt
        have ht := trim_le x
        have e : szF [] = 0 := rfl
        rw [e] at i2
        simp only [List.length_nil] at i3
        exact ⟨i1, by omega, by omega, trim_trim x, hx⟩
/-- as par_back, for a value that is no token -/
theorem par_back2 {v : List UInt8} {L : List F} (hP : Piece 59 v) (ht : trimL v = v) (hv : v ≠ []) (h : ∀ p ∈ L, GoodP p) : parL (fmtPL v L) = some (v, L) := by
  have hc := cut_fmt L v hP (fun p hp => (h p hp).1)
  unfold parL fmtPL
  rw [hc]
  simp only
  rw [ht, if_neg hv, parF_ones L [] h]
  rfl
theorem type_facts {v : List UInt8} {a b : ByteArray} (h : typeL v = some (a, b)) :
    tokL a.data.toList = true ∧ tokL b.data.toList = true ∧ lowL a.data.toList = a.data.toList ∧ lowL b.data.toList = b.data.toList ∧ ¬ (a.data.toList = [42] ∧ b.data.toList ≠ [42]) ∧ a.size + b.size ≤ v.length := by
  unfold typeL at h
  split at h
  · cases h
  · split at h
    · cases h
    · rename_i h1
      split at h
      · cases h
      · rename_i h2
        split at h
        · cases h
        · rename_i h3
          cases h
          have t1 : tokL (cut1 47 v) = true := by simpa using h1
          have t2 : tokL (cut2 47 v) = true := by simpa using h2
          refine ⟨tok_low t1, tok_low t2, low_low _, low_low _, ?_, ?_⟩
          · rw [bs_toList, bs_toList, low_star t1]
            intro q
            exact h3 ⟨q.1, fun e => q.2 ((low_star t2).2 e)⟩
          · rw [bs_size, bs_size, lowL_len, lowL_len]; exact cut_sizes10
theorem type_back {a b : ByteArray} (h1 : tokL a.data.toList = true) (h2 : tokL b.data.toList = true) (h3 : lowL a.data.toList = a.data.toList) (h4 : lowL b.data.toList = b.data.toList) (h5 : ¬ (a.data.toList = [42] ∧ b.data.toList ≠ [42])) :
    typeL (a.data.toList ++ 47 :: b.data.toList) = some (a, b) := by
  obtain ⟨e1, e2, e3⟩ := cut_app (c := 47) (a := a.data.toList) (b := b.data.toList) (tok_no47 h1)
  unfold typeL
  rw [e1, e2, e3, if_neg (by simp), if_neg (by simp [h1]), if_neg (by simp [h2]), if_neg h5, h3, h4]
  rfl
theorem media_trim {a b : List UInt8} (h1 : tokL a = true) (h2 : tokL b = true) : trimL (a ++ 47 :: b) = a ++ 47 :: b := by
  have := trim_char [] (a ++ 47 :: b) [] (by simp) (by simp) ?_ ?_
  · rwa [List.nil_append, List.append_nil] at this
  · intro c r h
    match a, h1, h with
    | d :: a', h1, h =>
      simp only [List.cons_append, List.cons.injEq] at h
      obtain ⟨rfl, _⟩ := h
      exact (tok_more (tok_byte h1 _ (by simp))).2.2.2.2
    | [], h1, _ => exact absurd rfl (tok_ne h1)
  · intro c r h
    have hm : c ∈ b := by
      have e : (a ++ 47 :: b).getLast? = (r ++ [c]).getLast? := by rw [h]
      obtain ⟨b', d, rfl⟩ : ∃ b' d, b = b' ++ [d] := ⟨b.dropLast, b.getLast (tok_ne h2), (List.dropLast_concat_getLast (tok_ne h2)).symm⟩
      rw [show a ++ 47 :: (b' ++ [d]) = (a ++ 47 :: b') ++ [d] from by simp, List.getLast?_append, List.getLast?_append] at e
      simp at e
      subst e; simp
    exact (tok_more (tok_byte h2 c hm)).2.2.2.2
theorem media_piece {a b : List UInt8} (h1 : tokL a = true) (h2 : tokL b = true) : Piece 59 (a ++ 47 :: b) :=
  Piece.tok h1 (Piece.cons (by decide) (by decide) (by have := Piece.tok h2 (Piece.nil 59); rwa [List.append_nil] at this))
theorem range_facts {s : List UInt8} {a b : ByteArray} {L : List F} (h : rangeL s = some (a, b, L)) :
    (tokL a.data.toList = true ∧ tokL b.data.toList = true ∧ lowL a.data.toList = a.data.toList ∧ lowL b.data.toList = b.data.toList ∧ ¬ (a.data.toList = [42] ∧ b.data.toList ≠ [42])) ∧ (∀ p ∈ L, GoodP p) ∧ a.size + b.size + szF L ≤ s.length ∧ L.length ≤ s.length := by
  unfold rangeL at h
  cases hp : parL s with
  | none => rw [hp] at h; cases h
  | some y =>
    obtain ⟨v, K⟩ := y
    rw [hp] at h
    simp only at h
    cases ht : typeL v with
    | none => rw [ht] at h; cases h
    | some z =>
      obtain ⟨c, d⟩ := z
      rw [ht] at h
      cases h
      obtain ⟨p1, p2, p3, _, _⟩ := par_facts hp
      obtain ⟨t1, t2, t3, t4, t5, t6⟩ := type_facts ht
      exact ⟨⟨t1, t2, t3, t4, t5⟩, p1, by omega, p3⟩
/-- the length of what is written -/
theorem fmt_len (v : List UInt8) : ∀ L : List F, (fmtPL v L).length ≤ v.length + 2 * szF L + 4 * L.length := by
  intro L
  unfold fmtPL
  rw [List.length_append]
  have key : ∀ L : List F, (L.flatMap fun p => 59 :: oneP p).length ≤ 2 * szF L + 4 * L.length := by
    intro L
    induction L with
    | nil => simp [szF]
    | cons p L ih =>
      have e : szF (p :: L) = p.1.size + p.2.size + szF L := by simp [szF]
      have z1 : p.1.data.toList.length = p.1.size := by simp
      have z2 : p.2.data.toList.length = p.2.size := by simp
      have hv : (valP p.2.data.toList).length ≤ 2 * p.2.data.toList.length + 2 := by
        unfold valP
        split
        · omega
        · have := escL_le p.2.data.toList
          unfold quoteL
          simp only [List.length_cons, List.length_append, List.length_nil]; omega
      have ho : (oneP p).length = p.1.data.toList.length + ((valP p.2.data.toList).length + 1) := by unfold oneP; rw [List.length_append, List.length_cons]
      rw [List.flatMap_cons, List.length_append, e, List.length_cons, List.length_cons, ho]
      omega
  have := key L
  omega
theorem szF_mem {p : F} : ∀ {L : List F}, p ∈ L → p.1.size + p.2.size ≤ szF L
  | q :: L, h => by
    have e : szF (q :: L) = q.1.size + q.2.size + szF L := by simp [szF]
    rw [e]
    rcases List.mem_cons.1 h with rfl | h
    · omega
    · have := szF_mem h; omega
theorem szF_at {L : List F} {i : Nat} (h : i < L.length) : L[i].1.size + L[i].2.size ≤ szF L := szF_mem (List.getElem_mem h)
end
section
/-- the pieces between hyphens -/
def subL : List UInt8 → List (List UInt8)
  | [] => [[]]
  | c :: r => if c = 45 then [] :: subL r else match subL r with
    | [] => [[c]]
    | x :: xs => (c :: x) :: xs
theorem subL_cons (l : List UInt8) : ∃ x xs, subL l = x :: xs := by
  match l with
  | [] => exact ⟨_, _, rfl⟩
  | c :: r =>
    unfold subL
    split
    · exact ⟨_, _, rfl⟩
    · split
      · exact ⟨_, _, rfl⟩
      · exact ⟨_, _, rfl⟩
theorem subL_hyp (r : List UInt8) : subL (45 :: r) = [] :: subL r := by show (if (45 : UInt8) = 45 then _ else _) = _; rw [if_pos rfl]
theorem subL_chr {c : UInt8} {r x : List UInt8} {xs : List (List UInt8)} (hc : ¬ c = 45) (e : subL r = x :: xs) : subL (c :: r) = (c :: x) :: xs := by
  show (if c = 45 then [] :: subL r else match subL r with | [] => [[c]] | x :: xs => (c :: x) :: xs) = _
  rw [if_neg hc, e]
theorem sub_no : ∀ {l : List UInt8}, (45 : UInt8) ∉ l → subL l = [l]
  | [], _ => rfl
  | c :: r, h => by
    have hc : ¬ c = 45 := fun e => h (by simp [e])
    exact subL_chr hc (sub_no (l := r) (fun e => h (by simp [e])))
theorem sub_at : ∀ {a b : List UInt8}, (45 : UInt8) ∉ a → subL (a ++ 45 :: b) = a :: subL b
  | [], b, _ => subL_hyp b
  | c :: r, b, h => by
    have hc : ¬ c = 45 := fun e => h (by simp [e])
    exact subL_chr hc (sub_at (a := r) (fun e => h (by simp [e])))
theorem sub_mem : ∀ (l : List UInt8), ∀ x ∈ subL l, (45 : UInt8) ∉ x ∧ x.length ≤ l.length
  | [], x, h => by simp [subL] at h; subst h; simp
  | c :: r, x, h => by
    have ih := sub_mem r
    obtain ⟨y, ys, e⟩ := subL_cons r
    unfold subL at h
    by_cases hc : c = 45
    · rw [if_pos hc] at h
      rcases List.mem_cons.1 h with rfl | h
      · simp
      · have := ih x h; simp only [List.length_cons]; exact ⟨this.1, by omega⟩
    · rw [if_neg hc, e] at h
      rcases List.mem_cons.1 h with rfl | h
      · have := ih y (by rw [e]; simp)
        refine ⟨?_, by simp only [List.length_cons]; omega⟩
        intro hm
        rcases List.mem_cons.1 hm with q | q
        · exact hc q.symm
        · exact this.1 q
      · have := ih x (by rw [e]; simp [h]); simp only [List.length_cons]; exact ⟨this.1, by omega⟩
theorem sub_count : ∀ l : List UInt8, (subL l).length ≤ l.length + 1
  | [] => by simp [subL]
  | c :: r => by
    have ih := sub_count r
    unfold subL
    split
    · simp only [List.length_cons]; omega
    · split
      · simp
      · rename_i x xs e; rw [e] at ih; simp only [List.length_cons] at ih ⊢; omega
def lettI (b : Int) : Bool := decide (97 ≤ b ∧ b ≤ 122) || decide (65 ≤ b ∧ b ≤ 90)
def subOk (first : Bool) (x : List UInt8) : Bool := decide (1 ≤ x.length ∧ x.length ≤ 8) && x.all fun c => lettI c.toNat || (!first && digitI c.toNat)
def subsOk : List (List UInt8) → Bool
  | [] => true
  | x :: xs => subOk true x && xs.all (subOk false)
def tagL (l : List UInt8) : Bool := subsOk (subL l)
def rangeT (l : List UInt8) : Bool := decide (l = [42]) || tagL l
def prefS : List (List UInt8) → List (List UInt8) → Bool
  | [], _ => true
  | _ :: _, [] => false
  | x :: xs, y :: ys => foldL x y && prefS xs ys
def matchT (r t : List UInt8) : Int :=
  if (rangeT r && tagL t) = false then -1
  else if r = [42] then 0
  else if prefS (subL r) (subL t) = true then ((subL r).length : Int) else -1
end
section
def xgzL : List UInt8 := [120, 45, 103, 122, 105, 112]
def gzL : List UInt8 := [103, 122, 105, 112]
def xcoL : List UInt8 := [120, 45, 99, 111, 109, 112, 114, 101, 115, 115]
def coL : List UInt8 := [99, 111, 109, 112, 114, 101, 115, 115]
def canL (k : Int) (s : List UInt8) : List UInt8 :=
  if k = 4 ∧ lowL s = xgzL then gzL else if k = 4 ∧ lowL s = xcoL then coL else lowL s
def matchC (k : Int) (r v : List UInt8) : Int := if r = [42] then 0 else if canL k r = canL k v then 1 else -1
theorem can_low (k : Int) (s : List UInt8) : canL k (lowL s) = canL k s := by unfold canL; rw [low_low]
theorem can_can (k : Int) (s : List UInt8) : canL k (canL k s) = canL k s := by
  have e1 : lowL gzL = gzL := by decide +kernel
  have e2 : lowL coL = coL := by decide +kernel
  have n1 : gzL ≠ xgzL := by decide
  have n2 : gzL ≠ xcoL := by decide
  have n3 : coL ≠ xgzL := by decide
  have n4 : coL ≠ xcoL := by decide
  by_cases h1 : k = 4 ∧ lowL s = xgzL
  · have : canL k s = gzL := by unfold canL; rw [if_pos h1]
    rw [this]
    unfold canL; rw [e1, if_neg (fun q => n1 q.2), if_neg (fun q => n2 q.2)]
  · by_cases h2 : k = 4 ∧ lowL s = xcoL
    · have : canL k s = coL := by unfold canL; rw [if_neg h1, if_pos h2]
      rw [this]
      unfold canL; rw [e2, if_neg (fun q => n3 q.2), if_neg (fun q => n4 q.2)]
    · have : canL k s = lowL s := by unfold canL; rw [if_neg h1, if_neg h2]
      rw [this, can_low, this]
theorem can_len (k : Int) (s : List UInt8) : (canL k s).length ≤ s.length := by
  have hl : (lowL s).length = s.length := by simp [lowL]
  unfold canL
  split
  · rename_i h; have := congrArg List.length h.2; rw [hl] at this; rw [this]; decide
  · split
    · rename_i h; have := congrArg List.length h.2; rw [hl] at this; rw [this]; decide
    · omega
theorem matchC_star (k : Int) (v : List UInt8) : matchC k [42] v = 0 := by unfold matchC; rw [if_pos rfl]
theorem matchC_not {k : Int} {r v : List UInt8} (h : r ≠ [42]) : matchC k r v = if canL k r = canL k v then 1 else -1 := by unfold matchC; rw [if_neg h]
end
section
/-- digits behind the point, by their weights -/
def qvD : Int → Int → List UInt8 → Option Int
  | q, _, [] => some q
  | q, w, c :: r => if digitI c.toNat = true then qvD (q + ((c.toNat : Int) - 48) * w) (w / 10) r else none
def qvEnd (q : Option Int) : Option Int := match q with
  | some v => if 1000 < v then none else some v
  | none => none
def qvL : List UInt8 → Option Int
  | [] => none
  | a :: r =>
    if 5 < r.length + 1 ∨ ¬ (a = 48 ∨ a = 49) then none
    else match r with
      | [] => qvEnd (some (((a.toNat : Int) - 48) * 1000))
      | p :: ds => if p ≠ 46 then none else qvEnd (qvD (((a.toNat : Int) - 48) * 1000) 100 ds)
def qvV (o : Option Int) : Int × Bool := match o with
  | some v => (v, true)
  | none => (0, false)
/-- three digits, without the zeros at the end -/
def digC (n : Nat) : UInt8 := UInt8.ofNat (48 + n)
def threeL (n : Nat) : List UInt8 := [digC (n / 100 % 10), digC (n / 10 % 10), digC (n % 10)]
def stripF : Nat → List UInt8 → List UInt8
  | 0, l => l
  | f + 1, l => if l.getLast? = some 48 then stripF f l.dropLast else l
def fmtQ (q : Int) : List UInt8 :=
  if q < 0 ∨ 1000 < q then [] else if q = 0 then [48] else if q = 1000 then [49] else 48 :: 46 :: stripF 3 (threeL q.toNat)
theorem qv_read (q : Int) (h0 : 0 ≤ q) (h1 : q ≤ 1000) : qvL (fmtQ q) = some q := by
  have key : ∀ n : Fin 1001, qvL (fmtQ (n.1 : Int)) = some (n.1 : Int) := by decide +kernel
  have := key ⟨q.toNat, by omega⟩
  simp only at this
  rwa [show ((q.toNat : Nat) : Int) = q from by omega] at this
theorem qv_none (q : Int) (h : q < 0 ∨ 1000 < q) : fmtQ q = [] := by unfold fmtQ; rw [if_pos h]
/-- the digits of 1000 + q -/
theorem dec_four (q : Int) (h0 : 0 ≤ q) (h1 : q < 1000) : decL (1000 + q) = 49 :: threeL q.toNat := by
  have key : ∀ n : Fin 1000, decL (1000 + (n.1 : Int)) = 49 :: threeL n.1 := by decide +kernel
  have := key ⟨q.toNat, by omega⟩
  simp only at this
  rwa [show ((q.toNat : Nat) : Int) = q from by omega] at this
theorem qv_more (a p : UInt8) (ds : List UInt8) : qvL (a :: p :: ds) = if ds.length ≤ 3 ∧ (a = 48 ∨ a = 49) ∧ p = 46 then qvEnd (qvD (((a.toNat : Int) - 48) * 1000) 100 ds) else none := by
  show (if 5 < (p :: ds).length + 1 ∨ ¬ (a = 48 ∨ a = 49) then none else if p ≠ 46 then none else qvEnd (qvD (((a.toNat : Int) - 48) * 1000) 100 ds)) = _
  rw [List.length_cons]
  by_cases h1 : ds.length ≤ 3
  · by_cases h2 : a = 48 ∨ a = 49
    · have hn : ¬ (5 < ds.length + 1 + 1 ∨ ¬ (a = 48 ∨ a = 49)) := fun h => h.elim (fun q => by omega) (fun q => q h2)
      rw [if_neg hn]
      by_cases h3 : p = 46
      · rw [if_neg (fun q => q h3), if_pos ⟨h1, h2, h3⟩]
      · rw [if_pos h3, if_neg (fun q => h3 q.2.2)]
    · rw [if_pos (Or.inr h2), if_neg (fun q => h2 q.2.1)]
  · rw [if_pos (Or.inl (by omega)), if_neg (fun q => h1 q.1)]
/-- bounds of what has been read -/
theorem qvD_cons (q w : Int) (c : UInt8) (r : List UInt8) : qvD q w (c :: r) = if digitI c.toNat = true then qvD (q + ((c.toNat : Int) - 48) * w) (w / 10) r else none := rfl
end
section
open Go.RowKit
theorem ret_bool {a b : Bool} (h : a = b) : Ending.returned (.bool a) = .returned (.bool b) := by rw [h]
theorem ret_int {k : IntKind} {a b : Int} (h : a = b) : Ending.returned (.int k a) = .returned (.int k b) := by rw [h]
theorem eqb_t {a b : Int} (h : (a == b) = true) : a = b := by simpa using h
theorem isBlank_any (b : Int) (w : World) :
    Calls Tryz.prog 163 #[.int .u8 b] w fun e w' => e = .returned (.bool (blankI b)) ∧ w = w' := by
  go_enter Tryz.func163, Tryz.ntmps163
  go_wp2
  all_goals (go_ret; exact ⟨ret_bool (by simp [blankI, *]), rfl⟩)
theorem rblank_any (b : Int) (w : World) :
    Calls Tryz.prog 93 #[.int .u8 b] w fun e w' => e = .returned (.bool (blankI b)) ∧ w = w' := by
  go_enter Tryz.func93, Tryz.ntmps93
  go_wp2
  all_goals (go_ret; exact ⟨ret_bool (by simp [blankI, *]), rfl⟩)
theorem isDigit_any (b : Int) (w : World) (h0 : 0 ≤ b) (h1 : b ≤ 255) :
    Calls Tryz.prog 170 #[.int .u8 b] w fun e w' => e = .returned (.bool (digitI b)) ∧ w = w' := by
  go_enter Tryz.func170, Tryz.ntmps170
  go_wp2
  all_goals (go_ret; exact ⟨ret_bool (by rw [Bool.eq_iff_iff]; simp [digitI]; omega), rfl⟩)
theorem rDigit_any (b : Int) (w : World) (h0 : 0 ≤ b) (h1 : b ≤ 255) :
    Calls Tryz.prog 88 #[.int .u8 b] w fun e w' => e = .returned (.bool (digitI b)) ∧ w = w' := by
  go_enter Tryz.func88, Tryz.ntmps88
  go_wp2
  all_goals (go_ret; exact ⟨ret_bool (by rw [Bool.eq_iff_iff]; simp [digitI]; omega), rfl⟩)
theorem isTextByte_any (b : Int) (w : World) (h0 : 0 ≤ b) (h1 : b ≤ 255) :
    Calls Tryz.prog 198 #[.int .u8 b] w fun e w' => e = .returned (.bool (textI b)) ∧ w = w' := by
  go_enter Tryz.func198, Tryz.ntmps198
  go_wp2
  all_goals (go_ret; exact ⟨ret_bool (by rw [Bool.eq_iff_iff]; simp [textI, *] <;> omega), rfl⟩)
theorem textByte_any (b : Int) (w : World) (h0 : 0 ≤ b) (h1 : b ≤ 255) :
    Calls Tryz.prog 157 #[.int .u8 b] w fun e w' => e = .returned (.bool (textI b)) ∧ w = w' := by
  go_enter Tryz.func157, Tryz.ntmps157
  go_wp2
  all_goals (go_ret; exact ⟨ret_bool (by rw [Bool.eq_iff_iff]; simp [textI, *] <;> omega), rfl⟩)
theorem lowerByte_any (b : Int) (w : World) (h0 : 0 ≤ b) (h1 : b ≤ 255) :
    Calls Tryz.prog 156 #[.int .u8 b] w fun e w' => e = .returned (.int .u8 (lowI b)) ∧ w = w' := by
  go_enter Tryz.func156, Tryz.ntmps156
  go_wp2
  all_goals (go_ret; exact ⟨ret_int (by unfold lowI; split <;> omega), rfl⟩)
theorem isTokenByte_any (b : Int) (w : World) (h0 : 0 ≤ b) (h1 : b ≤ 255) :
    Calls Tryz.prog 152 #[.int .u8 b] w fun e w' => e = .returned (.bool (tokI b)) ∧ w = w' := by
  go_enter Tryz.func152, Tryz.ntmps152
  go_wp2
  all_goals (go_ret; exact ⟨ret_bool (by first | (simp [tokI, signI, *]; done) | (rw [Bool.eq_iff_iff]; simp [tokI, signI, letterI, digitI, *] <;> omega)), rfl⟩)
theorem rTokenByte_any (b : Int) (w : World) (h0 : 0 ≤ b) (h1 : b ≤ 255) :
    Calls Tryz.prog 86 #[.int .u8 b] w fun e w' => e = .returned (.bool (tokI b)) ∧ w = w' := by
  go_enter Tryz.func86, Tryz.ntmps86
  go_wp2
  all_goals try (go_ret; exact ⟨ret_bool (by rw [Bool.eq_iff_iff]; simp [tokI, letterI, digitI] <;> omega), rfl⟩)
  all_goals
    go_loop [3] (fun i => ∃ k : Nat, k ≤ 15 ∧ i = .int .i64 k ∧ ∀ j < k, signL.getD j 0 ≠ b) (fun i => 15 - (intOf i).toNat)
    case atStart => exact ⟨0, by omega, rfl, by omega⟩
    case round =>
      obtain ⟨k, hk, rfl, hno⟩ := hrel
      by_cases hlt : k < 15
      · go_wp2
        · go_ret
          exact ⟨ret_bool (sign_yes hlt ‹_›).symm, rfl⟩
        · go_round
          case rel => exact ⟨k + 1, by omega, by go_num, sign_more hno hlt ‹_›⟩
          case measure => simp [intOf]; omega
      · go_wp2
        go_ret
        exact ⟨ret_bool (sign_no hno (by omega) (by simp [letterI, digitI] <;> omega)).symm, rfl⟩
end
section
open Go.RowKit
theorem byte_bd (s : ByteArray) (k : Nat) (h : k < s.size) : (0 : Int) ≤ (s[k].toNat : Int) ∧ (s[k].toNat : Int) ≤ 255 := by
  have := s[k].toNat_lt; omega
theorem tokL_not {s : ByteArray} {k : Nat} (hk : k < s.size) (hp : tokI (s[k].toNat) = false) : tokL s.data.toList = false := by
  simp [tokL, all_not hk hp]
theorem textL_not {s : ByteArray} {k : Nat} (hk : k < s.size) (hp : textI (s[k].toNat) = false) : textL s.data.toList = false := all_not hk hp
theorem textL_end {s : ByteArray} {k : Nat} (h : allI textI (s.data.toList.take k) = true) (hk : s.size ≤ k) : textL s.data.toList = true := all_end h hk
theorem tokL_end {s : ByteArray} {k : Nat} (h : allI tokI (s.data.toList.take k) = true) (hk : s.size ≤ k) : tokL s.data.toList = !s.toList.isEmpty := by
  rw [ByteArray.toList_eq]; simp [tokL, all_end h hk]
theorem Token_any (s : ByteArray) (w : World) (hs : s.size ≤ maxLen) :
    Calls Tryz.prog 122 #[.string s] w fun e w' => e = .returned (.bool (tokL s.data.toList)) ∧ w = w' := by
  unfold maxLen at hs
  go_enter Tryz.func122, Tryz.ntmps122
  go_wp2
  go_loop [6] (fun i => ∃ k : Nat, k ≤ s.size ∧ i = .int .i64 k ∧ allI tokI (s.data.toList.take k) = true) (fun i => s.size - (intOf i).toNat)
  case atStart => exact ⟨0, Nat.zero_le _, rfl, rfl⟩
  case round =>
    obtain ⟨k, hk, rfl, hall⟩ := hrel
    by_cases hlt : k < s.size
    · have hb := byte_bd s k hlt
      rcases hp : tokI (s[k].toNat) with _ | _
      · go_wp2_with (go_at_call 152; refine (isTokenByte_any _ _ hb.1 hb.2).mono ?_; rintro e w' ⟨rfl, rfl⟩)
        go_ret
        exact ⟨ret_bool (tokL_not hlt hp).symm, rfl⟩
      · go_wp2_with (go_at_call 152; refine (isTokenByte_any _ _ hb.1 hb.2).mono ?_; rintro e w' ⟨rfl, rfl⟩)
        go_round
        case rel => exact ⟨k + 1, by omega, by go_num, all_more hall hlt hp⟩
        case measure => simp [intOf]; omega
    · go_wp2
      go_ret
      exact ⟨ret_bool (tokL_end hall (by omega)).symm, rfl⟩
theorem rToken_any (s : ByteArray) (w : World) (hs : s.size ≤ maxLen) :
    Calls Tryz.prog 48 #[.string s] w fun e w' => e = .returned (.bool (tokL s.data.toList)) ∧ w = w' := by
  unfold maxLen at hs
  go_enter Tryz.func48, Tryz.ntmps48
  go_wp2
  go_loop [3] (fun i => ∃ k : Nat, k ≤ s.size ∧ i = .int .i64 k ∧ allI tokI (s.data.toList.take k) = true) (fun i => s.size - (intOf i).toNat)
  case atStart => exact ⟨0, Nat.zero_le _, rfl, rfl⟩
  case round =>
    obtain ⟨k, hk, rfl, hall⟩ := hrel
    by_cases hlt : k < s.size
    · have hb := byte_bd s k hlt
      rcases hp : tokI (s[k].toNat) with _ | _
      · go_wp2_with (go_at_call 86; refine (rTokenByte_any _ _ hb.1 hb.2).mono ?_; rintro e w' ⟨rfl, rfl⟩)
        go_ret
        exact ⟨ret_bool (tokL_not hlt hp).symm, rfl⟩
      · go_wp2_with (go_at_call 86; refine (rTokenByte_any _ _ hb.1 hb.2).mono ?_; rintro e w' ⟨rfl, rfl⟩)
        go_round
        case rel => exact ⟨k + 1, by omega, by go_num, all_more hall hlt hp⟩
        case measure => simp [intOf]; omega
    · go_wp2
      go_ret
      exact ⟨ret_bool (tokL_end hall (by omega)).symm, rfl⟩
theorem Text_any (s : ByteArray) (w : World) (hs : s.size ≤ maxLen) :
    Calls Tryz.prog 188 #[.string s] w fun e w' => e = .returned (.bool (textL s.data.toList)) ∧ w = w' := by
  unfold maxLen at hs
  go_enter Tryz.func188, Tryz.ntmps188
  go_wp2
  go_loop [6] (fun i => ∃ k : Nat, k ≤ s.size ∧ i = .int .i64 k ∧ allI textI (s.data.toList.take k) = true) (fun i => s.size - (intOf i).toNat)
  case atStart => exact ⟨0, Nat.zero_le _, rfl, rfl⟩
  case round =>
    obtain ⟨k, hk, rfl, hall⟩ := hrel
    by_cases hlt : k < s.size
    · have hb := byte_bd s k hlt
      rcases hp : textI (s[k].toNat) with _ | _
      · go_wp2_with (go_at_call 198; refine (isTextByte_any _ _ hb.1 hb.2).mono ?_; rintro e w' ⟨rfl, rfl⟩)
        go_ret
        exact ⟨ret_bool (textL_not hlt hp).symm, rfl⟩
      · go_wp2_with (go_at_call 198; refine (isTextByte_any _ _ hb.1 hb.2).mono ?_; rintro e w' ⟨rfl, rfl⟩)
        go_round
        case rel => exact ⟨k + 1, by omega, by go_num, all_more hall hlt hp⟩
        case measure => simp [intOf]; omega
    · go_wp2
      go_ret
      exact ⟨ret_bool (textL_end hall (by omega)).symm, rfl⟩
theorem rText_any (s : ByteArray) (w : World) (hs : s.size ≤ maxLen) :
    Calls Tryz.prog 127 #[.string s] w fun e w' => e = .returned (.bool (textL s.data.toList)) ∧ w = w' := by
  unfold maxLen at hs
  go_enter Tryz.func127, Tryz.ntmps127
  go_wp2
  go_loop [3] (fun i => ∃ k : Nat, k ≤ s.size ∧ i = .int .i64 k ∧ allI textI (s.data.toList.take k) = true) (fun i => s.size - (intOf i).toNat)
  case atStart => exact ⟨0, Nat.zero_le _, rfl, rfl⟩
  case round =>
    obtain ⟨k, hk, rfl, hall⟩ := hrel
    by_cases hlt : k < s.size
    · have hb := byte_bd s k hlt
      rcases hp : textI (s[k].toNat) with _ | _
      · go_wp2_with (go_at_call 157; refine (textByte_any _ _ hb.1 hb.2).mono ?_; rintro e w' ⟨rfl, rfl⟩)
        go_ret
        exact ⟨ret_bool (textL_not hlt hp).symm, rfl⟩
      · go_wp2_with (go_at_call 157; refine (textByte_any _ _ hb.1 hb.2).mono ?_; rintro e w' ⟨rfl, rfl⟩)
        go_round
        case rel => exact ⟨k + 1, by omega, by go_num, all_more hall hlt hp⟩
        case measure => simp [intOf]; omega
    · go_wp2
      go_ret
      exact ⟨ret_bool (textL_end hall (by omega)).symm, rfl⟩
end
end Go.Proofs.YtklfpkaemnhdhaaGreatDoor.Asc
