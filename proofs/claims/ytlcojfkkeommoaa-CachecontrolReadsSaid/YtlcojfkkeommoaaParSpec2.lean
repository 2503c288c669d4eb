/- Plain facts: parameters that have been written are read (ParamBack); blanks and empty pieces (ParamBlanks). No program is named here. -/
import Derived.Test.YtlcojfkkeommoaaParSpec
set_option linter.unusedVariables false
set_option linter.unusedSimpArgs false
set_option maxRecDepth 100000
namespace Go.Proofs.Ytlcojfkkeommoaa.Asc

theorem sep59 : (59 : UInt8) ≠ 34 ∧ (59 : UInt8) ≠ 92 := by decide
theorem cut_fmt : ∀ (L : List F) (a : List UInt8), Piece 59 a → (∀ p ∈ L, tokL p.1.data.toList = true) → cutL 59 (a ++ L.flatMap fun p => 59 :: oneP p) = a :: L.map oneP
  | [], a, h, _ => by simp only [List.flatMap_nil, List.append_nil, List.map_nil]; exact cut_piece h
  | p :: L, a, h, hL => by
    have e : a ++ (p :: L).flatMap (fun p => 59 :: oneP p) = a ++ 59 :: (oneP p ++ L.flatMap fun p => 59 :: oneP p) := by simp
    rw [e, cut_pieces sep59 _ h, cut_fmt L (oneP p) (piece_one (hL p (by simp))) (fun q hq => hL q (by simp [hq]))]
    rfl
theorem one_ne (p : F) : oneP p ≠ [] := by unfold oneP; simp
theorem parF_step {p : List UInt8} {ps : List (List UInt8)} {acc : List F} {f : F} (h0 : trimL p ≠ []) (h : paramL (trimL p) = some f) : parF (p :: ps) acc = parF ps (acc ++ [f]) := by
  show (if trimL p = [] then parF ps acc else match paramL (trimL p) with | some f => parF ps (acc ++ [f]) | none => none) = _
  rw [if_neg h0, h]
theorem parF_skip {p : List UInt8} {ps : List (List UInt8)} {acc : List F} (h0 : trimL p = []) : parF (p :: ps) acc = parF ps acc := by
  show (if trimL p = [] then parF ps acc else match paramL (trimL p) with | some f => parF ps (acc ++ [f]) | none => none) = _
  rw [if_pos h0]
theorem parF_ones : ∀ (L : List F) (acc : List F), (∀ p ∈ L, tokL p.1.data.toList = true ∧ lowL p.1.data.toList = p.1.data.toList ∧ textL p.2.data.toList = true) → parF (L.map oneP) acc = some (acc ++ L)
  | [], acc, _ => by simp [parF]
  | p :: L, acc, h => by
    obtain ⟨h1, h2, h3⟩ := h p (by simp)
    have ht : trimL (oneP p) = oneP p := by
      have := trim_one (n := p.1.data.toList) (v := p.2.data.toList) (a := []) (b := []) h1 (by simp) (by simp)
      rw [List.nil_append, List.append_nil] at this
      exact this
    have hp : paramL (trimL (oneP p)) = some p := by
      rw [ht]
      have := param_read (n := p.1.data.toList) (v := p.2.data.toList) h1 h3
      rw [h2] at this
      exact this
    rw [List.map_cons, parF_step (by rw [ht]; exact one_ne p) hp, parF_ones L _ (fun q hq => h q (by simp [hq]))]
    simp
theorem par_back {v : List UInt8} {L : List F} (hv : tokL v = true) (h : ∀ p ∈ L, tokL p.1.data.toList = true ∧ lowL p.1.data.toList = p.1.data.toList ∧ textL p.2.data.toList = true) : parL (fmtPL v L) = some (v, L) := by
  have hP : Piece 59 v := by have := Piece.tok hv (Piece.nil 59); rwa [List.append_nil] at this
  have hc := cut_fmt L v hP (fun p hp => (h p hp).1)
  have ht : trimL v = v := by
    have := trim_tok (v := v) (a := []) (b := []) hv (by simp) (by simp)
    rwa [List.nil_append, List.append_nil] at this
  unfold parL fmtPL
  rw [hc]
  simp only
  rw [ht, if_neg (tok_ne hv), parF_ones L [] h]
  rfl
theorem quote_piece {n t : List UInt8} (hn : tokL n = true) : Piece 59 (n ++ 61 :: quoteL t) := by
  have h := Piece.quote 59 t (Piece.nil 59)
  rw [List.append_nil] at h
  exact Piece.tok hn (Piece.cons (by decide) (by decide) h)
theorem quote_read {n t : List UInt8} (hn : tokL n = true) (ht : textL t = true) : paramL (n ++ 61 :: quoteL t) = some (bs (lowL n), bs t) := by
  obtain ⟨h1, h2, h3⟩ := cut_app (c := 61) (a := n) (b := quoteL t) (fun hc => (tok_not (tok_byte hn 61 hc)).2.2.1 rfl)
  unfold paramL
  rw [h1, h2, h3, if_neg (by rintro (q | q) <;> simp_all), if_neg (by rw [quote_tok]; simp), unq_quote_text ht]
theorem quote_trim {n t a b : List UInt8} (hn : tokL n = true) (ha : ∀ c ∈ a, blankB c = true) (hb : ∀ c ∈ b, blankB c = true) : trimL (a ++ ((n ++ 61 :: quoteL t) ++ b)) = n ++ 61 :: quoteL t := by
  refine trim_char a (n ++ 61 :: quoteL t) b ha hb ?_ ?_
  · intro c r h
    match n, hn, h with
    | d :: n', hn, h =>
      simp only [List.cons_append, List.cons.injEq] at h
      obtain ⟨rfl, _⟩ := h
      exact (tok_not (tok_byte hn _ (by simp))).2.2.2.2
    | [], hn, _ => exact absurd rfl (tok_ne hn)
  · intro c r h
    have e : (n ++ 61 :: quoteL t).getLast? = (r ++ [c]).getLast? := by rw [h]
    rw [show n ++ 61 :: quoteL t = (n ++ 61 :: 34 :: escL t) ++ [34] from by unfold quoteL; simp, List.getLast?_append, List.getLast?_append] at e
    simp at e
    subst e; decide
theorem blanks_piece {p a b : List UInt8} (ha : ∀ c ∈ a, c ≠ 34 ∧ c ≠ 59) (hb : ∀ c ∈ b, c ≠ 34 ∧ c ≠ 59) (hp : ∀ q, Piece 59 q → Piece 59 (p ++ q)) : Piece 59 (a ++ (p ++ b)) := by
  refine Piece.plain ha (hp b ?_)
  have := Piece.plain hb (Piece.nil 59)
  rwa [List.append_nil] at this
/-- for ParamBlanks: both strings have the value and the parameter twice -/
theorem par_blanks {v n t : List UInt8} (hv : tokL v = true) (hn : tokL n = true) (ht : textL t = true) :
    parL (v ++ 59 :: ((n ++ 61 :: quoteL t) ++ 59 :: (n ++ 61 :: quoteL t))) = some (v, [(bs (lowL n), bs t), (bs (lowL n), bs t)]) ∧
    parL (([32] ++ (v ++ [9])) ++ 59 :: ([32] ++ 59 :: (([9] ++ ((n ++ 61 :: quoteL t) ++ [32])) ++ 59 :: ([] ++ 59 :: ((n ++ 61 :: quoteL t) ++ 59 :: [32]))))) = some (v, [(bs (lowL n), bs t), (bs (lowL n), bs t)]) := by
  have hP : Piece 59 v := by have := Piece.tok hv (Piece.nil 59); rwa [List.append_nil] at this
  have hT : trimL v = v := by
    have := trim_tok (v := v) (a := []) (b := []) hv (by simp) (by simp)
    rwa [List.nil_append, List.append_nil] at this
  have hQ := quote_piece (t := t) hn
  have hqt : trimL (n ++ 61 :: quoteL t) = n ++ 61 :: quoteL t := by
    have := quote_trim (n := n) (t := t) (a := []) (b := []) hn (by simp) (by simp)
    rwa [List.nil_append, List.append_nil] at this
  have hqr := quote_read hn ht
  have hne : n ++ 61 :: quoteL t ≠ [] := by simp
  constructor
  · unfold parL
    rw [cut_pieces sep59 _ hP, cut_pieces sep59 _ hQ, cut_piece hQ]
    simp only
    rw [hT, if_neg (tok_ne hv), parF_step (by rw [hqt]; exact hne) (by rw [hqt]; exact hqr), parF_step (by rw [hqt]; exact hne) (by rw [hqt]; exact hqr)]
    rfl
  · have b32 : ∀ c ∈ [(32 : UInt8)], blankB c = true := by simp; decide
    have b9 : ∀ c ∈ [(9 : UInt8)], blankB c = true := by simp; decide
    have p32 : ∀ c ∈ [(32 : UInt8)], c ≠ 34 ∧ c ≠ 59 := by simp
    have p9 : ∀ c ∈ [(9 : UInt8)], c ≠ 34 ∧ c ≠ 59 := by simp
    have P1 : Piece 59 ([32] ++ (v ++ [9])) := blanks_piece p32 p9 (fun q hq => Piece.tok hv hq)
    have P32 : Piece 59 [32] := by have := Piece.plain p32 (Piece.nil 59); rwa [List.append_nil] at this
    have P2 : Piece 59 ([9] ++ ((n ++ 61 :: quoteL t) ++ [32])) := blanks_piece p9 p32 (fun q hq => by
      have := Piece.tok hn (Piece.cons (c := 61) (by decide) (by decide) (Piece.quote 59 t hq))
      rw [List.append_assoc]; exact this)
    have T1 := trim_tok (v := v) (a := [32]) (b := [9]) hv b32 b9
    have T2 := quote_trim (n := n) (t := t) (a := [9]) (b := [32]) hn b9 b32
    have T32 : trimL [32] = [] := by decide
    have T0 : trimL ([] : List UInt8) = [] := by decide
    unfold parL
    rw [cut_pieces sep59 _ P1, cut_pieces sep59 _ P32, cut_pieces sep59 _ P2, cut_pieces sep59 _ (Piece.nil 59), cut_pieces sep59 _ hQ, cut_piece P32]
    simp only
    rw [T1, if_neg (tok_ne hv), parF_skip T32, parF_step (by rw [T2]; exact hne) (by rw [T2]; exact hqr), parF_skip T0, parF_step (by rw [hqt]; exact hne) (by rw [hqt]; exact hqr), parF_skip T32]
    rfl

end Go.Proofs.Ytlcojfkkeommoaa.Asc
