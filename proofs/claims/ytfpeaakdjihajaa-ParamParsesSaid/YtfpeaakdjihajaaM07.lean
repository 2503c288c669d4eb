/- Merged texts: ParSpec2 ParSpec3 ParMem AscUn AscUnq ParRef. -/
import Derived.Test.YtfpeaakdjihajaaM03
import Derived.Test.YtfpeaakdjihajaaM04
import Derived.Test.YtfpeaakdjihajaaM06
set_option linter.unusedVariables false
set_option linter.unusedSimpArgs false
set_option maxRecDepth 100000
namespace Go.Proofs.Ytfpeaakdjihajaa.Asc
section
theorem sep59 : (59 : UInt8) ≠ 34 ∧ (59 : UInt8) ≠ 92 := by decide
theorem cut_fmt : ∀ (L : List F) (a : List UInt8), Piece 59 a → (∀ p ∈ L, tokL p.1.data.toList = true) → cutL 59 (a ++ L.flatMap fun p => 59 :: oneP p) = a :: L.map oneP
  | [], a, h, _ => by simp only [List.flatMap_nil, List.append_nil, List.map_nil]; exact cut_piece h
  | p :: L, a, h, hL => by
    have e : a ++ (p :: L).flatMap (fun p => 59 :: oneP p) = a ++ 59 :: (oneP p ++ L.flatMap fun p => 59 :: oneP p) := by simp
    rw [e, cut_pieces sep59 _ h, cut_fmt L (oneP p) (piece_one (hL p (by simp))) (fun q hq => hL q (by simp [hq]))]
    rfl
theorem one_ne (p : F) : oneP p ≠ [] := by unfold oneP; simp
theorem parF_step {p : List UInt8} {ps : List (List UInt8)} {acc : List F} {f : F} (h0 : trimL p ≠ []) (h : paramL (trimL p) = some f) : parF (p :: ps) acc = parF ps (acc ++ [f]) := by
  show (if trimL p = [] then parF ps acc else match paramL (trimL p) with | some f => parF ps (acc ++ [f]) | none => none) = _
  rw [if_neg h0, h]
theorem parF_skip {p : List UInt8} {ps : List (List UInt8)} {acc : List F} (h0 : trimL p = []) : parF (p :: ps) acc = parF ps acc := by
  show (if trimL p = [] then parF ps acc else match paramL (trimL p) with | some f => parF ps (acc ++ [f]) | none => none) = _
  rw [if_pos h0]
theorem parF_ones : ∀ (L : List F) (acc : List F), (∀ p ∈ L, tokL p.1.data.toList = true ∧ lowL p.1.data.toList = p.1.data.toList ∧ textL p.2.data.toList = true) → parF (L.map oneP) acc = some (acc ++ L)
  | [], acc, _ => by simp [parF]
  | p :: L, acc, h => by
    obtain ⟨h1, h2, h3⟩ := h p (by simp)
    have ht : trimL (oneP p) = oneP p := by
      have := trim_one (n := p.1.data.toList) (v := p.2.data.toList) (a := []) (b := []) h1 (by simp) (by simp)
      rw [List.nil_append, List.append_nil] at this
      exact this
    have hp : paramL (trimL (oneP p)) = some p := by
      rw [ht]
      have := param_read (n := p.1.data.toList) (v := p.2.data.toList) h1 h3
      rw [h2] at this
      exact this
    rw [List.map_cons, parF_step (by rw [ht]; exact one_ne p) hp, parF_ones L _ (fun q hq => h q (by simp [hq]))]
    simp
theorem par_back {v : List UInt8} {L : List F} (hv : tokL v = true) (h : ∀ p ∈ L, tokL p.1.data.toList = true ∧ lowL p.1.data.toList = p.1.data.toList ∧ textL p.2.data.toList = true) : parL (fmtPL v L) = some (v, L) := by
  have hP : Piece 59 v := by have := Piece.tok hv (Piece.nil 59); rwa [List.append_nil] at this
  have hc := cut_fmt L v hP (fun p hp => (h p hp).1)
  have ht : trimL v = v := by
    have := trim_tok (v := v) (a := []) (b := []) hv (by simp) (by simp)
    rwa [List.nil_append, List.append_nil] at this
  unfold parL fmtPL
  rw [hc]
  simp only
  rw [ht, if_neg (tok_ne hv), parF_ones L [] h]
  rfl
theorem quote_piece {n t : List UInt8} (hn : tokL n = true) : Piece 59 (n ++ 61 :: quoteL t) := by
  have h := Piece.quote 59 t (Piece.nil 59)
  rw [List.append_nil] at h
  exact Piece.tok hn (Piece.cons (by decide) (by decide) h)
theorem quote_read {n t : List UInt8} (hn : tokL n = true) (ht : textL t = true) : paramL (n ++ 61 :: quoteL t) = some (bs (lowL n), bs t) := by
  obtain ⟨h1, h2, h3⟩ := cut_app (c := 61) (a := n) (b := quoteL t) (fun hc => (tok_not (tok_byte hn 61 hc)).2.2.1 rfl)
  unfold paramL
  rw [h1, h2, h3, if_neg (by rintro (q | q) <;> simp_all), if_neg (by rw [quote_tok]; simp), unq_quote_text ht]
theorem quote_trim {n t a b : List UInt8} (hn : tokL n = true) (ha : ∀ c ∈ a, blankB c = true) (hb : ∀ c ∈ b, blankB c = true) : trimL (a ++ ((n ++ 61 :: quoteL t) ++ b)) = n ++ 61 :: quoteL t := by
  refine trim_char a (n ++ 61 :: quoteL t) b ha hb ?_ ?_
  · intro c r h
    match n, hn, h with
    | d :: n', hn, h =>
      simp only [List.cons_append, List.cons.injEq] at h
      obtain ⟨rfl, _⟩ := h
      exact (tok_not (tok_byte hn _ (by simp))).2.2.2.2
    | [], hn, _ => exact absurd rfl (tok_ne hn)
  · intro c r h
    have e : (n ++ 61 :: quoteL t).getLast? = (r ++ [c]).getLast? := by rw [h]
    rw [show n ++ 61 :: quoteL t = (n ++ 61 :: 34 :: escL t) ++ [34] from by unfold quoteL; simp, List.getLast?_append, List.getLast?_append] at e
    simp at e
    subst e; decide
theorem blanks_piece {p a b : List UInt8} (ha : ∀ c ∈ a, c ≠ 34 ∧ c ≠ 59) (hb : ∀ c ∈ b, c ≠ 34 ∧ c ≠ 59) (hp : ∀ q, Piece 59 q → Piece 59 (p ++ q)) : Piece 59 (a ++ (p ++ b)) := by
  refine Piece.plain ha (hp b ?_)
  have := Piece.plain hb (Piece.nil 59)
  rwa [List.append_nil] at this
/-- for ParamBlanks: both strings have the value and the parameter twice -/
theorem par_blanks {v n t : List UInt8} (hv : tokL v = true) (hn : tokL n = true) (ht : textL t = true) :
    parL (v ++ 59 :: ((n ++ 61 :: quoteL t) ++ 59 :: (n ++ 61 :: quoteL t))) = some (v, [(bs (lowL n), bs t), (bs (lowL n), bs t)]) ∧
    parL (([32] ++ (v ++ [9])) ++ 59 :: ([32] ++ 59 :: (([9] ++ ((n ++ 61 :: quoteL t) ++ [32])) ++ 59 :: ([] ++ 59 :: ((n ++ 61 :: quoteL t) ++ 59 :: [32]))))) = some (v, [(bs (lowL n), bs t), (bs (lowL n), bs t)]) := by
  have hP : Piece 59 v := by have := Piece.tok hv (Piece.nil 59); rwa [List.append_nil] at this
  have hT : trimL v = v := by
    have := trim_tok (v := v) (a := []) (b := []) hv (by simp) (by simp)
    rwa [List.nil_append, List.append_nil] at this
  have hQ := quote_piece (t := t) hn
  have hqt : trimL (n ++ 61 :: quoteL t) = n ++ 61 :: quoteL t := by
    have := quote_trim (n := n) (t := t) (a := []) (b := []) hn (by simp) (by simp)
    rwa [List.nil_append, List.append_nil] at this
  have hqr := quote_read hn ht
  have hne : n ++ 61 :: quoteL t ≠ [] := by simp
  constructor
  · unfold parL
    rw [cut_pieces sep59 _ hP, cut_pieces sep59 _ hQ, cut_piece hQ]
    simp only
    rw [hT, if_neg (tok_ne hv), parF_step (by rw [hqt]; exact hne) (by rw [hqt]; exact hqr), parF_step (by rw [hqt]; exact hne) (by rw [hqt]; exact hqr)]
    rfl
  · have b32 : ∀ c ∈ [(32 : UInt8)], blankB c = true := by simp; decide
    have b9 : ∀ c ∈ [(9 : UInt8)], blankB c = true := by simp; decide
    have p32 : ∀ c ∈ [(32 : UInt8)], c ≠ 34 ∧ c ≠ 59 := by simp
    have p9 : ∀ c ∈ [(9 : UInt8)], c ≠ 34 ∧ c ≠ 59 := by simp
    have P1 : Piece 59 ([32] ++ (v ++ [9])) := blanks_piece p32 p9 (fun q hq => Piece.tok hv hq)
    have P32 : Piece 59 [32] := by have := Piece.plain p32 (Piece.nil 59); rwa [List.append_nil] at this
    have P2 : Piece 59 ([9] ++ ((n ++ 61 :: quoteL t) ++ [32])) := blanks_piece p9 p32 (fun q hq => by
      have := Piece.tok hn (Piece.cons (c := 61) (by decide) (by decide) (Piece.quote 59 t hq))
      rw [List.append_assoc]; exact this)
    have T1 := trim_tok (v := v) (a := [32]) (b := [9]) hv b32 b9
    have T2 := quote_trim (n := n) (t := t) (a := [9]) (b := [32]) hn b9 b32
    have T32 : trimL [32] = [] := by decide
    have T0 : trimL ([] : List UInt8) = [] := by decide
    unfold parL
    rw [cut_pieces sep59 _ P1, cut_pieces sep59 _ P32, cut_pieces sep59 _ P2, cut_pieces sep59 _ (Piece.nil 59), cut_pieces sep59 _ hQ, cut_piece P32]
    simp only
    rw [T1, if_neg (tok_ne hv), parF_skip T32, parF_step (by rw [T2]; exact hne) (by rw [T2]; exact hqr), parF_skip T0, parF_step (by rw [hqt]; exact hne) (by rw [hqt]; exact hqr), parF_skip T32]
    rfl
end
section
def parA (l : List UInt8) : ByteArray := match parL l with | some (v, _) => bs v | none => ⟨#[]⟩
def parB (l : List UInt8) : List F := match parL l with | some (_, L) => L | none => []
def parO (l : List UInt8) : Bool := (parL l).isSome
theorem cutF_ne {sep : UInt8} : ∀ (f : Nat) (q : Bool) (l acc : List UInt8), cutF sep f q l acc ≠ []
  | f, q, [], acc => by rw [cutF_nil]; simp
  | 0, q, c :: r, acc => by unfold cutF; simp
  | f + 1, q, c :: r, acc => by
    rw [cutF_cons]
    split
    · match r with
      | [] => simp
      | d :: r2 => exact cutF_ne f q r2 _
    · split
      · exact cutF_ne f (!q) r _
      · split
        · simp
        · exact cutF_ne f q r _
theorem cut_first (sep : UInt8) (l : List UInt8) : ∃ v ps, cutL sep l = v :: ps := by
  cases h : cutL sep l with
  | nil => exact absurd h (cutF_ne _ _ _ _)
  | cons v ps => exact ⟨v, ps, rfl⟩
theorem par_none0 {l v : List UInt8} {ps : List (List UInt8)} (h : cutL 59 l = v :: ps) (ht : trimL v = []) : parA l = ⟨#[]⟩ ∧ parB l = [] ∧ parO l = false := by
  unfold parA parB parO parL; rw [h]; simp only; rw [if_pos ht]; exact ⟨rfl, rfl, rfl⟩
theorem par_none1 {l v : List UInt8} {ps : List (List UInt8)} (h : cutL 59 l = v :: ps) (ht : trimL v ≠ []) (hp : parF ps [] = none) : parA l = ⟨#[]⟩ ∧ parB l = [] ∧ parO l = false := by
  unfold parA parB parO parL; rw [h]; simp only; rw [if_neg ht, hp]; exact ⟨rfl, rfl, rfl⟩
theorem par_some {l v : List UInt8} {ps : List (List UInt8)} {L : List F} (h : cutL 59 l = v :: ps) (ht : trimL v ≠ []) (hp : parF ps [] = some L) : parA l = bs (trimL v) ∧ parB l = L ∧ parO l = true := by
  unfold parA parB parO parL; rw [h]; simp only; rw [if_neg ht, hp]; exact ⟨rfl, rfl, rfl⟩
theorem parF_bad {p : List UInt8} {ps : List (List UInt8)} {acc : List F} (h0 : trimL p ≠ []) (h : paramL (trimL p) = none) : parF (p :: ps) acc = none := by
  show (if trimL p = [] then parF ps acc else match paramL (trimL p) with | some f => parF ps (acc ++ [f]) | none => none) = _
  rw [if_neg h0, h]
/-- one parameter, by the place of its '=' -/
theorem param_no {x : List UInt8} (h : Lib.indexByte x 61 = -1) : paramL x = none := by
  unfold paramL; rw [if_pos (.inl (cut_no h).2.2)]
theorem param_name {x : List UInt8} {o : Nat} (h : Lib.indexByte x 61 = (o : Int)) (ht : tokL (x.take o) = false) : paramL x = none := by
  obtain ⟨_, h1, _, _⟩ := cut_at h
  unfold paramL; rw [h1, if_pos (.inr ht)]
theorem param_tok {x : List UInt8} {o : Nat} (h : Lib.indexByte x 61 = (o : Int)) (ht : tokL (x.take o) = true) (hv : tokL (x.drop (o + 1)) = true) : paramL x = some (bs (lowL (x.take o)), bs (x.drop (o + 1))) := by
  obtain ⟨_, h1, h2, h3⟩ := cut_at h
  unfold paramL; rw [h1, h2, h3, if_neg (by rw [ht]; simp), if_pos hv]
theorem param_bad {x : List UInt8} {o : Nat} (h : Lib.indexByte x 61 = (o : Int)) (ht : tokL (x.take o) = true) (hv : tokL (x.drop (o + 1)) = false) (hu : unqL (x.drop (o + 1)) = none) : paramL x = none := by
  obtain ⟨_, h1, h2, h3⟩ := cut_at h
  unfold paramL; rw [h1, h2, h3, if_neg (by rw [ht]; simp), if_neg (by rw [hv]; simp), hu]
theorem param_quo {x u : List UInt8} {o : Nat} (h : Lib.indexByte x 61 = (o : Int)) (ht : tokL (x.take o) = true) (hv : tokL (x.drop (o + 1)) = false) (hu : unqL (x.drop (o + 1)) = some u) : paramL x = some (bs (lowL (x.take o)), bs u) := by
  obtain ⟨_, h1, h2, h3⟩ := cut_at h
  unfold paramL; rw [h1, h2, h3, if_neg (by rw [ht]; simp), if_neg (by rw [hv]; simp), hu]
end
section
open Go.RowKit Go.ChangeShapes Go.WideShapes Go.Deep
theorem info_prm : (Try.prog.info? 48).map (fun i => (i.zero, i.size, i.bytes)) = some (some (.agg #[.string ⟨#[]⟩, .string ⟨#[]⟩]), 2, 32) := by kernel_rfl
def OwnP (w : World) (B : Nat) (v : Value) (L : List F) : Prop := w.ownsRow B 48 2 v L.length (cellsF L)
section
variable {w w' : World} {B : Nat} {v : Value}
theorem OwnP.nil (w : World) (B : Nat) : OwnP w B (.slice none 0 0) [] := World.ownsRow_nil _ _ _ _
/-- what a slice of fields that a call owns looks like -/
theorem OwnP.fs {L : List F} (h : OwnP w B v L) : ∃ a cap, v = .slice a L.length cap ∧ Fs w a L ∧ L.length ≤ cap := by
  rcases h.2 with ⟨rfl, hn⟩ | ⟨g, cap, cur, rfl, hB, hg, hc, hm, hs, ht⟩
  · exact ⟨none, 0, by rw [hn], fun i hi => by omega, by omega⟩
  · refine ⟨_, cap, rfl, fun i hi => ⟨g, 0, rfl, ?_, ?_⟩, hc⟩
    all_goals
      obtain ⟨q0, q1⟩ := cellsF_at L i hi
      rw [← ht] at q0 q1
      rw [List.getElem?_take] at q0 q1
      rw [if_pos (by omega)] at q0 q1
      simp only [World.cell?, hg]
    · simpa using q0
    · simpa [Nat.add_assoc] using q1
end
/-- append of one field that lies in a block of its own -/
theorem wpList_append_prm (w : World) {ops : Array Oper} {rest : List Oper} {o : Oper} {a : Act} {Q : Exit → Act → World → Prop} (hgd : o.guard = none) (s x : Operand)
    (ho : o.op = .call { callee := .builtin .append, args := #[s, x], argTypes := #[39, 39] })
    (B : Nat) (v : Value) (L : List F) (hs : a.eval s = v) (hown : OwnP w B v L)
    (g : Nat) (c : Nat) (hx : a.eval x = .slice (some ⟨g, 0, none⟩) 1 c) (n u : ByteArray) (h0 : w.cell? ⟨g, 0, none⟩ = some (.string n)) (h1 : w.cell? ⟨g, 1, none⟩ = some (.string u)) (hl : L.length ≤ 65536) (hB : B ≤ w.heap.size)
    (h : ∀ v' w', OwnP w' B v' (L ++ [(n, u)]) → Below B w w' → wpList Try.prog ops Q rest (a.put o.dst v') w') : wpList Try.prog ops Q (o :: rest) a w := by
  obtain ⟨i0, hi0, hz0, hz1, hz2⟩ := info_parts info_prm
  refine wpList_append_own (P := Try.prog) w hgd s x 39 ho B 48 i0 _ 2 32 Try.underlying39 hi0 hz0 hz1 hz2 rfl (by decide) v L.length (cellsF L) hs hown ⟨g, 0, none⟩ 1 c [.string n, .string u] hx rfl ?_ ?_ (by unfold maxLen; omega) (by omega) hB ?_
  · intro j u hj
    match j, hj with
    | 0, hj => simp at hj; subst hj; simpa [Addr.add] using h0
    | 1, hj => simp at hj; subst hj; simpa [Addr.add] using h1
  · intro u hu; simp at hu; rcases hu with rfl | rfl <;> rfl
  · intro v' w' q1 q2 _
    refine h v' w' (by simpa [OwnP, cellsF_app, cellsF] using q1) ((Below.refl _ _).grown q2 hB (fun k hk => own_block hown k hk))
def okP (p : F) : Bool := decide (p.1.size ≤ 100) && decide (p.2.size ≤ 100)
def keepP (L : List F) : Bool := L.all okP && decide (L.length ≤ 8)
theorem keepP_more {L : List F} {k : Nat} (h : k < L.length) (ha : (L.take k).all okP = true) (h1 : L[k].1.size ≤ 100) (h2 : L[k].2.size ≤ 100) : (L.take (k + 1)).all okP = true := by
  rw [take_next h, List.all_append, ha]
  simp [okP, h1, h2]
theorem keepP_bad {L : List F} {k : Nat} (h : k < L.length) (h1 : ¬ (L[k].1.size ≤ 100 ∧ L[k].2.size ≤ 100)) : keepP L = false := by
  have : L.all okP = false := by
    rw [← Bool.not_eq_true]; intro ha
    have := List.all_eq_true.mp ha L[k] (List.getElem_mem h)
    simp only [okP, Bool.and_eq_true, decide_eq_true_eq] at this
    exact h1 this
  unfold keepP; rw [this]; rfl
theorem keepP_long {L : List F} (h : ¬ L.length ≤ 8) : keepP L = false := by unfold keepP; simp [h]
theorem keepP_end {L : List F} (ha : (L.take L.length).all okP = true) (h : L.length ≤ 8) : keepP L = true := by
  rw [List.take_length] at ha
  unfold keepP; rw [ha]; simp [h]
theorem keepP_parts {L : List F} (h : keepP L = true) : L.length ≤ 8 ∧ ∀ i (hi : i < L.length), L[i].1.size ≤ 100 ∧ L[i].2.size ≤ 100 := by
  unfold keepP at h
  simp only [Bool.and_eq_true, decide_eq_true_eq] at h
  refine ⟨h.2, fun i hi => ?_⟩
  have := List.all_eq_true.mp h.1 L[i] (List.getElem_mem hi)
  simpa [okP] using this
theorem keepParams_any (a : Option Addr) (cap : Nat) (L : List F) (w : World) (hl : L.length ≤ maxLen) (hF : Box (Fs w a L)) :
    Calls Try.prog 27 #[.slice a L.length cap] w fun e w' => e = .returned (.bool (keepP L)) ∧ w = w' := by
  unfold maxLen at hl
  go_enter Try.func27, Try.ntmps27
  go_wp2
  go_loop [3] (fun i => ∃ k : Nat, k ≤ L.length ∧ k ≤ 9 ∧ i = .int .i64 k ∧ (L.take k).all okP = true) (fun i => 9 - (intOf i).toNat)
  case atStart => exact ⟨0, Nat.zero_le _, Nat.zero_le _, rfl, rfl⟩
  case round =>
    obtain ⟨k, hk, hk9, rfl, hall⟩ := hrel
    have HA := box hall
    clear hall
    by_cases hlt : k < L.length
    · by_cases h9 : k < 9
      · obtain ⟨g, off, rfl, c0, c1⟩ := hF.out k hlt
        go_wp2
        · have e1 : ¬ (L[k].1.size ≤ 100 ∧ L[k].2.size ≤ 100) := by omega
          go_ret
          exact ⟨ret_bool (keepP_bad hlt e1).symm, rfl⟩
        · have e1 : L[k].1.size ≤ 100 := by omega
          have e2 : L[k].2.size ≤ 100 := by omega
          go_round
          case rel => exact ⟨k + 1, by omega, by omega, by go_num, keepP_more hlt HA.out e1 e2⟩
          case measure => simp [intOf]; omega
        · have e1 : ¬ (L[k].1.size ≤ 100 ∧ L[k].2.size ≤ 100) := by omega
          go_ret
          exact ⟨ret_bool (keepP_bad hlt e1).symm, rfl⟩
      · go_wp2
        go_ret
        exact ⟨ret_bool (by rw [keepP_long (by omega)]; simp; omega), rfl⟩
    · have e : k = L.length := by omega
      have E := box e
      clear e
      by_cases h8 : L.length ≤ 8
      · go_wp2
        go_ret
        refine ⟨ret_bool ?_, rfl⟩
        have ha := HA.out
        rw [E.out] at ha
        rw [keepP_end ha h8]
        simp; omega
      · go_wp2
        go_ret
        exact ⟨ret_bool (by rw [keepP_long h8]; simp; omega), rfl⟩
set_option maxHeartbeats 800000 in
theorem SameP_any (a b : Option Addr) (ca cb : Nat) (K L : List F) (w : World) (hk : K.length ≤ 65536) (hl : L.length ≤ 65536) (hK : Box (Fs w a K)) (hL : Box (Fs w b L)) :
    Calls Try.prog 25 #[.slice a K.length ca, .slice b L.length cb] w fun e w' => e = .returned (.bool (decide (K = L))) ∧ Below w.heap.size w w' := by
  by_cases hn : K.length = L.length
  · have HN := box hn
    have hne : ((K.length : Int) != (L.length : Int)) = false := by simp [hn]
    clear hn
    go_enter Try.func25, Try.ntmps25
    go_wp2
    go_loopw [5] (fun i wr => ∃ k : Nat, k ≤ K.length ∧ i = .int .i64 k ∧ K.take k = L.take k ∧ Below w.heap.size w wr) (fun i _ => K.length - (intOf i).toNat)
    case atStart => exact ⟨0, Nat.zero_le _, rfl, rfl, Below.refl _ _⟩
    case round =>
      obtain ⟨k, hk2, rfl, hall, hbel⟩ := hrel
      have HA := box hall
      clear hall
      by_cases hlt : k < K.length
      · have hlt2 : k < L.length := by rw [← HN.out]; exact hlt
        obtain ⟨q, off, rfl, c0, c1⟩ := (hK.out.below hbel) k hlt
        obtain ⟨r, off2, rfl, d0, d1⟩ := (hL.out.below hbel) k hlt2
        rcases h1 : (K[k].1.toList == L[k].1.toList) with _ | _
        · go_wp2
          go_quiet (fail)
          go_wp2
          go_ret
          have hne2 : K[k] ≠ L[k] := fun e => by rw [e] at h1; simp at h1
          exact ⟨ret_bool (decide_eq_false (not_same hlt hlt2 hne2)).symm, hbel.trans ((below_drewN _ _).mono hbel.size)⟩
        · rcases h2 : (K[k].2.toList == L[k].2.toList) with _ | _
          · go_wp2
            go_quiet (fail)
            go_wp2
            go_ret
            have hne2 : K[k] ≠ L[k] := fun e => by rw [e] at h2; simp at h2
            exact ⟨ret_bool (decide_eq_false (not_same hlt hlt2 hne2)).symm, hbel.trans ((below_drewN _ _).mono hbel.size)⟩
          · have E := box (fld_eq h1 h2)
            go_wp2
            go_quiet (fail)
            go_wp2
            go_roundw
            case rel => exact ⟨k + 1, by omega, by go_num, take_same hlt hlt2 HA.out E.out, hbel.trans ((below_drewN _ _).mono hbel.size)⟩
            case measure => simp [intOf]; omega
      · have e : k = K.length := by omega
        have E : Box (K = L) := box (by
          have h := HA.out
          subst e
          rw [List.take_length, HN.out, List.take_length] at h
          exact h)
        clear e
        go_wp2
        go_ret
        exact ⟨ret_bool (decide_eq_true E.out).symm, hbel⟩
  · have hne : ((K.length : Int) != (L.length : Int)) = true := by simp; omega
    have HN := box hn
    clear hn
    go_enter Try.func25, Try.ntmps25
    go_wp2
    go_ret
    exact ⟨ret_bool (decide_eq_false (fun e => HN.out (by rw [e]))).symm, Below.refl _ _⟩
theorem open_params {H : Type} {enc : TypeId × Value → H} {W : World} {base : Nat} {sp : Nat → Bool} {held : Bool} {r : Reach} {b0 : Nat} {v : Value} {d : DataW H} {p : List MemPlace}
    (hval : Value.okWide Try.prog W r b0 39 v) (h : DataW.Trod enc Try.prog W base sp held 39 v d p) :
    ∃ (a : Option Addr) (cap : Nat) (L : List F), v = .slice a L.length cap ∧ L.length ≤ maxLen ∧ Fs W a L ∧ L.length ≤ cap := by
  obtain ⟨a0, len, cap, rfl⟩ := okWide_slice Try.underlying39 hval
  obtain ⟨fuel, hf⟩ := h
  rcases open_slice_pairs Try.underlying39 Try.underlying48 (by kernel_rfl) rfl rfl (by kernel_rfl) (by kernel_rfl) hf with ⟨hcs, hx⟩ | ⟨a, len', cap', m, n, V0, V1, D0, D1, P0, P1, hcs, _, hl, hm, hmm, hx, hi⟩
  · simp [Value.cells] at hcs
    obtain ⟨rfl, rfl, rfl⟩ := hcs
    exact ⟨none, 0, [], rfl, Nat.zero_le _, fun i hi => absurd hi (by simp), Nat.le_refl _⟩
  · simp [Value.cells] at hcs
    obtain ⟨rfl, rfl, rfl⟩ := hcs
    have hlm : len ≤ m := by rw [hmm]; split <;> omega
    refine ⟨some a, cap, (List.range len).map fun i => (strOf (V0 i), strOf (V1 i)), by simp, by simp; omega, fun i hi2 => ?_, by simp; omega⟩
    have hil : i < len := by simpa using hi2
    obtain ⟨g, off, spot⟩ := a
    obtain ⟨z0, _, _, _⟩ := hi 0 (by omega)
    have hspot : spot = none := by simpa [Addr.add] using World.cell?_spot z0
    subst hspot
    obtain ⟨k0, k1, t0, t1⟩ := hi i (by omega)
    obtain ⟨s0, e0, _, _⟩ := DataW.trod_string Try.underlying9 t0
    obtain ⟨s1, e1, _, _⟩ := DataW.trod_string Try.underlying9 t1
    rw [add_plain] at k0 k1
    simp at e0 e1
    refine ⟨g, off, rfl, ?_, ?_⟩
    · rw [k0, e0]; simp [strOf, e0]
    · rw [← Nat.add_assoc] at k1
      rw [k1, e1]; simp [strOf, e1]
end
section
open Go.RowKit
/-- the two results of a function that returns a string and whether there is one -/
def optV : Option (List UInt8) → Value
  | none => .tuple #[.string ⟨#[]⟩, .bool false]
  | some l => .tuple #[.string ⟨l.toArray⟩, .bool true]
theorem unescape_any (s : ByteArray) (w : World) (hs : s.size ≤ 4294967296) :
    Calls Try.prog 75 #[.string s] w fun e w' => e = .returned (optV (unescL s.data.toList)) ∧ Below w.heap.size w w' := by
  obtain ⟨i0, hi0, hz0, hz1, hz2⟩ := info_parts info_u8
  have hmk := fun (w : World) => run_make (P := Try.prog) w 53 5 i0 _ Try.underlying53 hi0 hz0 .i64 .i64 0 s.size (by omega) (by omega) (by rw [hz2]; omega) (by omega)
  simp only [Int.toNat_natCast, hz1, Nat.mul_one] at hmk
  go_enter Try.func75, Try.ntmps75
  go_wp2
  have hO0 : Own (w.alloc (.cells (madeCells #[.int .u8 0] s.size) 5)) w.heap.size (.slice (some ⟨w.heap.size, 0, none⟩) 0 s.size) [] :=
    ⟨rfl, .inr ⟨_, _, _, rfl, Nat.le_refl _, heap_alloc_new w _, Nat.zero_le _, by unfold maxLen; omega, by simp [size_madeCells], rfl⟩⟩
  go_loopw [4, 5] (fun v i wr => ∃ (k : Nat) (acc : List UInt8), k ≤ s.size ∧ i = .int .i64 k ∧ Own wr w.heap.size v acc ∧ UnAt s.data.toList k acc ∧ Below w.heap.size w wr) (fun _ i _ => s.size - (intOf i).toNat)
  case atStart => exact ⟨0, [], Nat.zero_le _, rfl, hO0, UnAt.start _, (Below.refl _ _).alloc (Nat.le_refl _) _⟩
  case round =>
    obtain ⟨k, acc, hk, rfl, hO, hU, hbel⟩ := hrel
    clear hO0 hmk
    have ha := hU.1
    by_cases hlt : k < s.size
    · rcases h1 : ((s[k].toNat : Int) == 34) with _ | _
      · rcases h2 : ((s[k].toNat : Int) == 92) with _ | _
        · go_wp2_with (at_builtin; refine wpList_append_byte _ rfl (.tmp 28) (.tmp 32) rfl w.heap.size _ acc rfl (hO.alloc _) _ rfl _ s[k] rfl (by go_simp) (by omega) (by have := hbel.size; simp; omega) ?_; intro v' w1 hO1 hb1)
          go_roundw
          case rel => exact ⟨k + 1, _, by omega, by go_num, hO1, hU.plain hlt h1 h2, hbel.alloc hbel.size _ |>.trans hb1⟩
          case measure => simp [intOf]; omega
        · by_cases he : k + 1 < s.size
          · go_wp2_with (at_builtin; refine wpList_append_byte _ rfl (.tmp 28) (.tmp 32) rfl w.heap.size _ acc rfl (hO.alloc _) _ rfl _ s[k + 1] rfl (by go_simp) (by omega) (by have := hbel.size; simp; omega) ?_; intro v' w1 hO1 hb1)
            go_roundw
            case rel => exact ⟨k + 1 + 1, _, by omega, by go_num, hO1, hU.esc hlt h2 he, hbel.alloc hbel.size _ |>.trans hb1⟩
            case measure => simp [intOf]; omega
          · go_wp2
            go_ret2
            exact ⟨by rw [hU.last hlt h2 (by omega)]; rfl, hbel⟩
      · go_wp2
        go_ret2
        exact ⟨by rw [hU.quote hlt h1]; rfl, hbel⟩
    · have hst := hO.str
      go_wp2
      go_ret2
      exact ⟨by rw [hU.fin (by simp; omega)]; rfl, hbel⟩
end
section
open Go.RowKit
theorem unescape_none {s : ByteArray} {w : World} (hs : s.size ≤ 4294967296) (h : unescL s.data.toList = none) :
    Calls Try.prog 75 #[.string s] w fun e w' => e = .returned (.tuple #[.string ⟨#[]⟩, .bool false]) ∧ Below w.heap.size w w' :=
  (unescape_any s w hs).mono fun e w' ⟨he, hb⟩ => ⟨by rw [he, h]; rfl, hb⟩
theorem unescape_some {s : ByteArray} {w : World} {r : List UInt8} (hs : s.size ≤ 4294967296) (h : unescL s.data.toList = some r) :
    Calls Try.prog 75 #[.string s] w fun e w' => e = .returned (.tuple #[.string ⟨r.toArray⟩, .bool true]) ∧ Below w.heap.size w w' :=
  (unescape_any s w hs).mono fun e w' ⟨he, hb⟩ => ⟨by rw [he, h]; rfl, hb⟩
set_option maxHeartbeats 800000 in
theorem Unquote_any (s : ByteArray) (w : World) (hs : s.size ≤ 4294967296) :
    Calls Try.prog 68 #[.string s] w fun e w' => e = .returned (optV (unqL s.data.toList)) ∧ Below w.heap.size w w' := by
  by_cases h2 : s.size < 2
  · go_enter Try.func68, Try.ntmps68
    go_wp2
    go_ret2
    exact ⟨by rw [unq_short h2]; rfl, Below.refl _ _⟩
  · have hp : 0 < s.size := by omega
    have hq : s.size - 1 < s.size := by omega
    by_cases h0 : ((s[0]'hp).toNat : Int) = 34
    · rcases h1 : (((s[s.size - 1]'hq).toNat : Int) != 34) with _ | _
      · have hu := unq_in h2 hp h0 hq h1
        have HI : Hid ((s.extract 1 (s.size - 1)).size ≤ 4294967296) := Lib.hid (by rw [ByteArray.size_extract]; omega)
        have HM : Hid ((s.extract 1 (s.size - 1)).size ≤ maxLen) := Lib.hid (by have := HI.out; unfold maxLen; omega)
        have HU := Lib.hid hu
        clear hu
        go_enter Try.func68, Try.ntmps68
        go_wp2_with fail
        refine (Text_any _ _ HM.out).mono ?_; rintro e w' ⟨rfl, rfl⟩
        rcases ht : textL (s.extract 1 (s.size - 1)).data.toList with _ | _
        · have HT := Lib.hid (unqIn_not ht)
          clear ht
          go_wp2
          go_ret2
          exact ⟨by rw [HU.out, HT.out]; rfl, Below.refl _ _⟩
        · have HT := Lib.hid (unqIn_text ht)
          clear ht
          go_wp2_with fail
          rcases hr : unescL (s.extract 1 (s.size - 1)).data.toList with _ | r
          · have HR := Lib.hid hr
            clear hr
            refine (unescape_none HI.out HR.out).mono ?_; rintro e w' ⟨rfl, hb⟩
            go_wp2
            go_ret2
            exact ⟨by rw [HU.out, HT.out, HR.out]; rfl, hb⟩
          · have HR := Lib.hid hr
            clear hr
            refine (unescape_some HI.out HR.out).mono ?_; rintro e w' ⟨rfl, hb⟩
            go_wp2
            go_ret2
            exact ⟨by rw [HU.out, HT.out, HR.out]; rfl, hb⟩
      · go_enter Try.func68, Try.ntmps68
        go_wp2
        go_ret2
        exact ⟨by rw [unq_last hq h1]; rfl, Below.refl _ _⟩
    · go_enter Try.func68, Try.ntmps68
      go_wp2
      go_ret2
      exact ⟨by rw [unq_head hp h0]; rfl, Below.refl _ _⟩
set_option maxHeartbeats 800000 in
theorem rUnquote_any (s : ByteArray) (w : World) (hs : s.size ≤ 4294967296) :
    Calls Try.prog 46 #[.string s] w fun e w' => e = .returned (optV (unqL s.data.toList)) ∧ Below w.heap.size w w' := by
  by_cases h2 : s.size < 2
  · go_enter Try.func46, Try.ntmps46
    go_wp2
    go_ret2
    exact ⟨by rw [unq_short h2]; rfl, Below.refl _ _⟩
  · have hp : 0 < s.size := by omega
    have hq : s.size - 1 < s.size := by omega
    by_cases h0 : ((s[0]'hp).toNat : Int) = 34
    · rcases h1 : (((s[s.size - 1]'hq).toNat : Int) != 34) with _ | _
      · have hu := unq_in h2 hp h0 hq h1
        have hin : (s.extract 1 (s.size - 1)).size ≤ 4294967296 := by rw [ByteArray.size_extract]; omega
        have HU := Lib.hid hu
        clear hu
        go_enter Try.func46, Try.ntmps46
        go_wp2_with fail
        clear h0 h1 h2 hp hq
        generalize hg : s.extract 1 (s.size - 1) = t at *
        have HG := Lib.hid hg
        clear hg
        go_loopw [4, 5] (fun v i wr => ∃ (k : Nat) (acc : List UInt8), k ≤ t.size ∧ i = .int .i64 k ∧ Own wr w.heap.size v acc ∧ UnAt t.data.toList k acc ∧ allI textI (t.data.toList.take k) = true ∧ Below w.heap.size w wr) (fun _ i _ => t.size - (intOf i).toNat)
        case atStart => exact ⟨0, [], Nat.zero_le _, rfl, Own.nil _ _, UnAt.start _, rfl, Below.refl _ _⟩
        case round =>
          obtain ⟨k, acc, hk, rfl, hO, hU, hT, hbel⟩ := hrel
          have ha := hU.1
          by_cases hlt : k < t.size
          · rcases h1 : ((t[k].toNat : Int) == 34) with _ | _
            · rcases h2 : ((t[k].toNat : Int) == 92) with _ | _
              · have hb := byte_bd t k hlt
                rcases hp : textI (t[k].toNat) with _ | _
                · go_wp2_with (go_at_call 51; refine (textByte_any _ _ hb.1 hb.2).mono ?_; rintro e w' ⟨rfl, rfl⟩)
                  go_ret2
                  exact ⟨by rw [HU.out, unqIn_not (textL_not hlt hp)]; rfl, hbel⟩
                · go_wp2_with (first | (go_at_call 51; refine (textByte_any _ _ hb.1 hb.2).mono ?_; rintro e w' ⟨rfl, rfl⟩) | (at_builtin; refine wpList_append_byte _ rfl _ _ rfl w.heap.size _ acc rfl (hO.alloc _) _ rfl _ t[k] rfl (by go_simp) (by omega) (by have := hbel.size; simp; omega) ?_; intro v' w1 hO1 hb1))
                  go_roundw
                  case rel => exact ⟨k + 1, _, by omega, by go_num, hO1, hU.plain hlt h1 h2, all_more hT hlt hp, hbel.alloc hbel.size _ |>.trans hb1⟩
                  case measure => simp [intOf]; omega
              · by_cases he : k + 1 < t.size
                · have hb := byte_bd t (k + 1) he
                  rcases hp : textI (t[k + 1].toNat) with _ | _
                  · go_wp2_with (go_at_call 51; refine (textByte_any _ _ hb.1 hb.2).mono ?_; rintro e w' ⟨rfl, rfl⟩)
                    go_ret2
                    exact ⟨by rw [HU.out, unqIn_not (textL_not he hp)]; rfl, hbel⟩
                  · have h92 : textI (t[k].toNat) = true := by have := eq_of_beq h2; rw [this]; rfl
                    have HA := Lib.hid (all_more (all_more hT hlt h92) he hp)
                    clear h92
                    go_wp2_with (first | (go_at_call 51; refine (textByte_any _ _ hb.1 hb.2).mono ?_; rintro e w' ⟨rfl, rfl⟩) | (at_builtin; refine wpList_append_byte _ rfl _ _ rfl w.heap.size _ acc rfl (hO.alloc _) _ rfl _ t[k + 1] rfl (by go_simp) (by omega) (by have := hbel.size; simp; omega) ?_; intro v' w1 hO1 hb1))
                    go_roundw
                    case rel => exact ⟨k + 1 + 1, _, by omega, by go_num, hO1, hU.esc hlt h2 he, HA.out, hbel.alloc hbel.size _ |>.trans hb1⟩
                    case measure => simp [intOf]; omega
                · go_wp2
                  go_ret2
                  exact ⟨by rw [HU.out, unqIn_none (hU.last hlt h2 (by omega))]; rfl, hbel⟩
            · go_wp2
              go_ret2
              exact ⟨by rw [HU.out, unqIn_none (hU.quote hlt h1)]; rfl, hbel⟩
          · have hst := hO.str
            go_wp2
            go_ret2
            exact ⟨by rw [HU.out, unqIn_text (textL_end hT (by omega)), hU.fin (by simp; omega)]; rfl, hbel⟩
      · go_enter Try.func46, Try.ntmps46
        go_wp2
        go_ret2
        exact ⟨by rw [unq_last hq h1]; rfl, Below.refl _ _⟩
    · go_enter Try.func46, Try.ntmps46
      go_wp2
      go_ret2
      exact ⟨by rw [unq_head hp h0]; rfl, Below.refl _ _⟩
end
section
open Go.RowKit
theorem rIndex61_is {s : ByteArray} {n : Int} {w : World} (hs : s.size ≤ maxLen) (h : Box (idxF s.data.toList 61 0 = n)) :
    Calls Try.prog 45 #[.string s, .int .u8 61, .int .i64 0] w fun e w' => e = .returned (.int .i64 n) ∧ w = w' :=
  (rIndex_any s 61 61 0 w hs (Nat.zero_le _) rfl).mono fun e w' ⟨h1, h2⟩ => ⟨by rw [h1, h.out], h2⟩
theorem rToken_is {s : ByteArray} {b : Bool} {w : World} (hs : s.size ≤ maxLen) (h : Box (tokL s.data.toList = b)) :
    Calls Try.prog 32 #[.string s] w fun e w' => e = .returned (.bool b) ∧ w = w' :=
  (rToken_any s w hs).mono fun e w' ⟨h1, h2⟩ => ⟨by rw [h1, h.out], h2⟩
theorem rUnq_is {s : ByteArray} {o : Option (List UInt8)} {w : World} (hs : s.size ≤ 4294967296) (h : Box (unqL s.data.toList = o)) :
    Calls Try.prog 46 #[.string s] w fun e w' => e = .returned (optV o) ∧ Below w.heap.size w w' :=
  (rUnquote_any s w hs).mono fun e w' ⟨h1, h2⟩ => ⟨by rw [h1, h.out], h2⟩
theorem rLower9_is {s x : ByteArray} {w : World} (hs : s.size ≤ 4294967296) (h : Box (bs (lowL s.data.toList) = x)) :
    Calls Try.prog 21 #[.string s] w fun e w' => e = .returned (.string x) ∧ Below w.heap.size w w' :=
  (rLower_any s w hs).mono fun e w' ⟨h1, h2⟩ => ⟨by rw [h1, ← h.out]; rfl, h2⟩
theorem idx_none {l : List UInt8} {c : UInt8} (h : Lib.indexByte l c = -1) : idxF l c 0 = -1 := by unfold idxF; rw [List.drop_zero, if_pos h]
theorem idx_some {l : List UInt8} {c : UInt8} {o : Nat} (h : Lib.indexByte l c = (o : Int)) : idxF l c 0 = (o : Int) := by
  unfold idxF; rw [List.drop_zero, if_neg (by omega), h]; simp
theorem idx_cases (l : List UInt8) (c : UInt8) : Lib.indexByte l c = -1 ∨ ∃ o : Nat, Lib.indexByte l c = (o : Int) ∧ o < l.length := by
  have hg := Lib.indexByte_ge l c
  by_cases h : Lib.indexByte l c = -1
  · exact .inl h
  · refine .inr ⟨(Lib.indexByte l c).toNat, by omega, ?_⟩
    exact (cut_at (l := l) (c := c) (k := (Lib.indexByte l c).toNat) (by omega)).1
theorem ext_take (x : ByteArray) (o : Nat) : (x.extract 0 o).data.toList = x.data.toList.take o := by rw [ext_bs, bs_toList, List.drop_zero]
theorem ext_drop (x : ByteArray) (o : Nat) : (x.extract o x.size).data.toList = x.data.toList.drop o := by rw [ext_bs, bs_toList, List.take_of_length_le (by simp)]
def ParRel (qs : List (List UInt8)) (B : Nat) (w : World) (v i : Value) (wr : World) : Prop :=
  ∃ (k : Nat) (acc : List F), i = .int .i64 k ∧ 1 ≤ k ∧ k ≤ qs.length ∧ acc.length ≤ k ∧ parF (qs.drop 1) [] = parF (qs.drop k) acc ∧ OwnP wr B v acc ∧ Below B w wr
def parW (w w' : World) (l : List UInt8) (e : Ending) : Prop := ∃ v, e = .returned (.tuple #[.string (parA l), v, .bool (parO l)]) ∧ OwnP w' w.heap.size v (parB l) ∧ Below w.heap.size w w'
theorem parW_none {w w' : World} {l : List UInt8} (h : parA l = ⟨#[]⟩ ∧ parB l = [] ∧ parO l = false) (hb : Below w.heap.size w w') : parW w w' l (.returned (.tuple #[.string ⟨#[]⟩, .slice none 0 0, .bool false])) := by
  obtain ⟨h1, h2, h3⟩ := h
  exact ⟨_, by rw [h1, h3], by rw [h2]; exact OwnP.nil _ _, hb⟩
set_option maxHeartbeats 4000000 in
theorem rPar_any (s : ByteArray) (w : World) (hs : s.size ≤ 65000) :
    Calls Try.prog 24 #[.string s] w fun e w' => parW w w' s.data.toList e := by
  have hz : s.data.toList.length = s.size := by simp
  obtain ⟨v0, ps, hqs⟩ := cut_first 59 s.data.toList
  obtain ⟨qs, hq⟩ : ∃ qs, qs = v0 :: ps := ⟨_, rfl⟩
  have hqs0 : 0 < qs.length := by rw [hq]; simp
  have hq0 : qs[0] = v0 := by subst hq; rfl
  have hq1 : qs.drop 1 = ps := by subst hq; rfl
  have HQ := box hqs
  rw [← hq] at hqs
  have hcnt : qs.length ≤ 65536 := by
    have := cut_count (sep := 59) s.data.toList.length false s.data.toList []
    rw [← hqs]; unfold cutL; omega
  have hsm : Box (∀ p ∈ qs, p.length ≤ 65000) := box (fun p hp => by
    rw [← hqs] at hp
    have := cut_small _ _ _ _ p hp
    simp at this; omega)
  have HCB : Box (cutsB 59 s.data.toList = qs.map bs) := box (by unfold cutsB; rw [hqs])
  have HQ0 := box hq0
  have HQ1 := box hq1
  clear hqs hz hq0 hq1 hq
  have hz0 : (bs qs[0]).size ≤ maxLen := by rw [bs_size]; have := hsm.out qs[0] (List.getElem_mem hqs0); unfold maxLen; omega
  by_cases ht : trimL v0 = []
  · have HT : Box (bs (trimL (bs qs[0]).data.toList) = ⟨#[]⟩) := box (by rw [bs_toList, HQ0.out, ht]; rfl)
    have HN := box (par_none0 HQ.out ht)
    clear ht
    go_enter Try.func24, Try.ntmps24
    go_wp2_with fail
    refine (rCut_any s 59 _ hs).mono ?_; rintro e w1 ⟨v1, rfl, hO1, hb1⟩
    rw [HCB.out] at hO1
    obtain ⟨a1, cap1, rfl, hS1, hc1⟩ := hO1.ss
    rw [List.length_map] at hc1 ⊢
    obtain ⟨q, off, rfl, c0⟩ := hS1 0 (by rw [List.length_map]; exact hqs0)
    rw [List.getElem_map, Nat.add_zero] at c0
    have B1 := box hb1
    clear hO1 hS1 hb1
    go_wp2_with fail
    refine (rTrim_is hz0 HT).mono ?_; rintro e w2 ⟨rfl, rfl⟩
    go_wp2
    go_ret3
    exact parW_none HN.out B1.out
  · obtain ⟨x0, hx0⟩ : ∃ x0, bs (trimL v0) = x0 := ⟨_, rfl⟩
    have HT : Box (bs (trimL (bs qs[0]).data.toList) = x0) := box (by rw [bs_toList, HQ0.out, hx0])
    have hxe : x0.toList.isEmpty = false := by
      rw [← hx0, toList_bs]
      cases h : trimL v0 with
      | nil => exact absurd h ht
      | cons c r => rfl
    have HX0 := box hx0
    have HNE := box ht
    clear hx0 ht
    go_enter Try.func24, Try.ntmps24
    go_wp2_with fail
    refine (rCut_any s 59 _ hs).mono ?_; rintro e w1 ⟨v1, rfl, hO1, hb1⟩
    rw [HCB.out] at hO1
    obtain ⟨a1, cap1, rfl, hS1, hc1⟩ := hO1.ss
    rw [List.length_map] at hc1 ⊢
    obtain ⟨q, off, rfl, c0⟩ := hS1 0 (by rw [List.length_map]; exact hqs0)
    rw [List.getElem_map, Nat.add_zero] at c0
    have S1 := box hS1
    have B1 := box hb1
    have hB1 := hb1.size
    clear hO1 hS1 hb1
    go_wp2_with fail
    refine (rTrim_is hz0 HT).mono ?_; rintro e w2 ⟨rfl, rfl⟩
    clear c0
    go_wp2
    go_loopw [7, 8] (fun v i wr => ParRel qs w1.heap.size w1 v i wr) (fun _ i _ => qs.length - (intOf i).toNat)
    case atStart => exact ⟨1, [], rfl, Nat.le_refl _, hqs0, Nat.zero_le _, rfl, OwnP.nil _ _, Below.refl _ _⟩
    case round =>
      obtain ⟨k, acc, rfl, hk1, hk, hak, hP, hO, hbel⟩ := hrel
      rw [HQ1.out] at hP
      have HP := box hP
      obtain ⟨av, cv, rfl, _, _⟩ := hO.fs
      have O0 := box hO
      have BL := box hbel
      have hBw := hbel.size
      clear hO hbel hP
      by_cases hlt : k < qs.length
      · have hmem := List.getElem_mem hlt
        obtain ⟨q', off', e, c1⟩ := (S1.out.below BL.out) k (by rw [List.length_map]; exact hlt)
        rw [List.getElem_map] at c1
        cases e
        have hpz : (bs qs[k]).size ≤ maxLen := by rw [bs_size]; have := hsm.out qs[k] hmem; unfold maxLen; omega
        have hdr : qs.drop k = qs[k] :: qs.drop (k + 1) := List.drop_eq_getElem_cons hlt
        by_cases ht : trimL qs[k] = []
        · have HTk : Box (bs (trimL (bs qs[k]).data.toList) = ⟨#[]⟩) := box (by rw [bs_toList, ht]; rfl)
          have HN : Box (parF ps [] = parF (qs.drop (k + 1)) acc) := box (by rw [HP.out, hdr, parF_skip ht])
          clear hdr ht
          go_wp2_with fail
          refine (rTrim_is hpz HTk).mono ?_; rintro e w2 ⟨rfl, rfl⟩
          go_wp2
          go_roundw
          case rel => exact ⟨k + 1, acc, by go_num, by omega, by omega, by omega, by rw [HQ1.out]; exact HN.out, O0.out, BL.out⟩
          case measure => simp [intOf]; omega
        · obtain ⟨X, hX⟩ : ∃ X, trimL qs[k] = X := ⟨_, rfl⟩
          obtain ⟨x, hx⟩ : ∃ x, bs X = x := ⟨_, rfl⟩
          have hxd : x.data.toList = X := by rw [← hx]; rfl
          have HTk : Box (bs (trimL (bs qs[k]).data.toList) = x) := box (by rw [bs_toList, hX, hx])
          have hxe : x.toList.isEmpty = false := by
            rw [← hx, toList_bs]
            cases h : X with
            | nil => exact absurd (hX.trans h) ht
            | cons c r => rfl
          have hxz : x.size ≤ 65000 := by
            rw [← hx, bs_size, ← hX]
            have := hsm.out qs[k] hmem
            have := trim_le qs[k]
            omega
          have hxm : x.size ≤ maxLen := by unfold maxLen; omega
          have hlx : x.data.toList.length = x.size := by simp
          clear hx
          have HNone : paramL x.data.toList = none → Box (parF ps [] = none) := fun h => box (by rw [HP.out, hdr, parF_bad ht (by rw [hX, ← hxd]; exact h)])
          have HSome : ∀ f, paramL x.data.toList = some f → Box (parF ps [] = parF (qs.drop (k + 1)) (acc ++ [f])) := fun f h => box (by rw [HP.out, hdr, parF_step ht (by rw [hX, ← hxd]; exact h)])
          have HSM := box HSome
          have HNO := box HNone
          clear HSome HNone hdr ht hX hxd
          rcases idx_cases x.data.toList 61 with hi | ⟨o, hi, ho⟩
          · have HI := box (idx_none hi)
            have HB := box (par_none1 HQ.out HNE.out (HNO.out (param_no hi)).out)
            clear hi hlx
            go_wp2_with fail
            refine (rTrim_is hpz HTk).mono ?_; rintro e w2 ⟨rfl, rfl⟩
            go_wp2_with fail
            refine (rIndex61_is hxm HI).mono ?_; rintro e w2 ⟨rfl, rfl⟩
            go_wp2
            go_ret3
            exact parW_none HB.out (B1.out.trans (BL.out.mono hB1))
          · rw [hlx] at ho
            have HI := box (idx_some hi)
            have hoz : (x.extract 0 o).size ≤ maxLen := by rw [ByteArray.size_extract]; unfold maxLen; omega
            have hoz4 : (x.extract 0 o).size ≤ 4294967296 := by rw [ByteArray.size_extract]; omega
            have hvz : (x.extract (o + 1) x.size).size ≤ maxLen := by rw [ByteArray.size_extract]; unfold maxLen; omega
            have hvz4 : (x.extract (o + 1) x.size).size ≤ 4294967296 := by rw [ByteArray.size_extract]; omega
            have e1 := ext_take x o
            have e2 := ext_drop x (o + 1)
            have HZ1 := box hoz
            have HZ2 := box hvz
            have HZ4 := box hvz4
            have HZ3 := box hoz4
            clear hlx hoz hvz hoz4 hvz4
            rcases htk : tokL (x.data.toList.take o) with _ | _
            · have HTK : Box (tokL (x.extract 0 o).data.toList = false) := box (by rw [e1]; exact htk)
              have HB := box (par_none1 HQ.out HNE.out (HNO.out (param_name hi htk)).out)
              clear hi htk e1 e2
              go_wp2_with fail
              refine (rTrim_is hpz HTk).mono ?_; rintro e w2 ⟨rfl, rfl⟩
              go_wp2_with fail
              refine (rIndex61_is hxm HI).mono ?_; rintro e w2 ⟨rfl, rfl⟩
              go_wp2_with fail
              refine (rToken_is HZ1.out HTK).mono ?_; rintro e w2 ⟨rfl, rfl⟩
              go_wp2
              go_ret3
              exact parW_none HB.out (B1.out.trans (BL.out.mono hB1))
            · have HTK : Box (tokL (x.extract 0 o).data.toList = true) := box (by rw [e1]; exact htk)
              obtain ⟨nm, hnm⟩ : ∃ nm, bs (lowL (x.data.toList.take o)) = nm := ⟨_, rfl⟩
              have HLW : Box (bs (lowL (x.extract 0 o).data.toList) = nm) := box (by rw [e1]; exact hnm)
              rcases hvk : tokL (x.data.toList.drop (o + 1)) with _ | _
              · have HVK : Box (tokL (x.extract (o + 1) x.size).data.toList = false) := box (by rw [e2]; exact hvk)
                rcases hu : unqL (x.data.toList.drop (o + 1)) with _ | u
                · have HU : Box (unqL (x.extract (o + 1) x.size).data.toList = none) := box (by rw [e2]; exact hu)
                  have HB := box (par_none1 HQ.out HNE.out (HNO.out (param_bad hi htk hvk hu)).out)
                  clear hi htk hvk hu e1 e2 hnm
                  go_wp2_with fail
                  refine (rTrim_is hpz HTk).mono ?_; rintro e w2 ⟨rfl, rfl⟩
                  go_wp2_with fail
                  refine (rIndex61_is hxm HI).mono ?_; rintro e w2 ⟨rfl, rfl⟩
                  go_wp2_with fail
                  refine (rToken_is HZ1.out HTK).mono ?_; rintro e w2 ⟨rfl, rfl⟩
                  go_wp2_with fail
                  refine (rToken_is HZ2.out HVK).mono ?_; rintro e w2 ⟨rfl, rfl⟩
                  go_wp2_with fail
                  refine (rUnq_is HZ4.out HU).mono ?_; rintro e w3 ⟨rfl, hb3⟩
                  have B3 := box (BL.out.trans (hb3.mono BL.out.size))
                  unfold optV
                  clear hb3
                  go_wp2
                  go_ret3
                  exact parW_none HB.out (B1.out.trans (B3.out.mono hB1))
                · obtain ⟨ub, hub⟩ : ∃ ub, bs u = ub := ⟨_, rfl⟩
                  have HU : Box (unqL (x.extract (o + 1) x.size).data.toList = some u) := box (by rw [e2]; exact hu)
                  have HN : Box (parF ps [] = parF (qs.drop (k + 1)) (acc ++ [(nm, ub)])) := box (by have := (HSM.out _ (param_quo hi htk hvk hu)).out; rw [hnm, hub] at this; exact this)
                  have HUB := box hub
                  clear hi htk hvk hu e1 e2 hnm hub
                  go_wp2_with fail
                  refine (rTrim_is hpz HTk).mono ?_; rintro e w2 ⟨rfl, rfl⟩
                  go_wp2_with fail
                  refine (rIndex61_is hxm HI).mono ?_; rintro e w2 ⟨rfl, rfl⟩
                  go_wp2_with fail
                  refine (rToken_is HZ1.out HTK).mono ?_; rintro e w2 ⟨rfl, rfl⟩
                  go_wp2_with fail
                  refine (rToken_is HZ2.out HVK).mono ?_; rintro e w2 ⟨rfl, rfl⟩
                  go_wp2_with fail
                  refine (rUnq_is HZ4.out HU).mono ?_; rintro e w3 ⟨rfl, hb3⟩
                  rw [show optV (some u) = .tuple #[.string (bs u), .bool true] from rfl, HUB.out]
                  have O3 := box (own_below O0.out hb3)
                  have B3 := box (BL.out.trans (hb3.mono BL.out.size))
                  clear hb3
                  go_wp2_with fail
                  refine (rLower9_is (x := nm) HZ3.out HLW).mono ?_; rintro e w4 ⟨rfl, hb4⟩
                  have O4 := box (own_below O3.out hb4)
                  have B4 := box (B3.out.trans (hb4.mono B3.out.size))
                  clear hb4
                  go_wp2_with (at_builtin; refine wpList_append_prm _ rfl (.tmp 61) (.tmp 68) rfl w1.heap.size _ acc rfl ?a1 _ _ rfl nm ub ?b1 ?b2 ?c1 ?d1 ?_)
                  case a1 => exact own_below O4.out (below_new _ _)
                  case b1 => go_simp
                  case b2 => go_simp
                  case c1 => omega
                  case d1 => have := B4.out.size; simp; omega
                  intro v5 w5 hO5 hb5
                  have O5 := box hO5
                  have B5 := box ((B4.out.alloc B4.out.size _).trans hb5)
                  clear hO5 hb5
                  go_wp2
                  go_roundw
                  case rel => exact ⟨k + 1, acc ++ [(nm, ub)], by go_num, by omega, by omega, by rw [List.length_append]; simp; omega, by rw [HQ1.out]; exact HN.out, O5.out, B5.out⟩
                  case measure => simp [intOf]; omega
              · have HVK : Box (tokL (x.extract (o + 1) x.size).data.toList = true) := box (by rw [e2]; exact hvk)
                obtain ⟨vb, hvb⟩ : ∃ vb, bs (x.data.toList.drop (o + 1)) = vb := ⟨_, rfl⟩
                have hve : x.extract (o + 1) x.size = vb := by rw [← hvb, ← e2]; rfl
                have HN : Box (parF ps [] = parF (qs.drop (k + 1)) (acc ++ [(nm, x.extract (o + 1) x.size)])) := box (by have := (HSM.out _ (param_tok hi htk hvk)).out; rw [hnm, hvb] at this; rw [hve]; exact this)
                clear hi htk hvk e1 e2 hnm hvb hve
                go_wp2_with fail
                refine (rTrim_is hpz HTk).mono ?_; rintro e w2 ⟨rfl, rfl⟩
                go_wp2_with fail
                refine (rIndex61_is hxm HI).mono ?_; rintro e w2 ⟨rfl, rfl⟩
                go_wp2_with fail
                refine (rToken_is HZ1.out HTK).mono ?_; rintro e w2 ⟨rfl, rfl⟩
                go_wp2_with fail
                refine (rToken_is HZ2.out HVK).mono ?_; rintro e w2 ⟨rfl, rfl⟩
                go_wp2_with fail
                refine (rLower9_is (x := nm) HZ3.out HLW).mono ?_; rintro e w4 ⟨rfl, hb4⟩
                have O4 := box (own_below O0.out hb4)
                have B4 := box (BL.out.trans (hb4.mono BL.out.size))
                clear hb4
                go_wp2_with (at_builtin; refine wpList_append_prm _ rfl (.tmp 61) (.tmp 68) rfl w1.heap.size _ acc rfl ?a1 _ _ rfl nm (x.extract (o + 1) x.size) ?b1 ?b2 ?c1 ?d1 ?_)
                case a1 => exact own_below O4.out (below_new _ _)
                case b1 => go_simp
                case b2 => go_simp
                case c1 => omega
                case d1 => have := B4.out.size; simp; omega
                intro v5 w5 hO5 hb5
                have O5 := box hO5
                have B5 := box ((B4.out.alloc B4.out.size _).trans hb5)
                clear hO5 hb5
                go_wp2
                go_roundw
                case rel => exact ⟨k + 1, acc ++ [(nm, x.extract (o + 1) x.size)], by go_num, by omega, by omega, by rw [List.length_append]; simp; omega, by rw [HQ1.out]; exact HN.out, O5.out, B5.out⟩
                case measure => simp [intOf]; omega
      · have HD : Box (parA s.data.toList = x0 ∧ parB s.data.toList = acc ∧ parO s.data.toList = true) := box (by
          have := par_some HQ.out HNE.out (HP.out.trans (by rw [List.drop_of_length_le (by omega)]; rfl))
          rwa [HX0.out] at this)
        go_wp2
        go_ret3
        obtain ⟨d1, d2, d3⟩ := HD.out
        exact ⟨_, by rw [d1, d3]; rfl, by rw [d2]; exact Go.Joins.ownsRow_le O0.out hB1, B1.out.trans (BL.out.mono hB1)⟩
end
end Go.Proofs.Ytfpeaakdjihajaa.Asc
