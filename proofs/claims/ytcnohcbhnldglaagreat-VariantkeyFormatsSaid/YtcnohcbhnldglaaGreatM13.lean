/- Merged texts: VarSpec7 KeySpec KeyMem VarRef5 VarEqu VarSet AccKN MedSet. -/
import Derived.Test.YtcnohcbhnldglaaGreatM02
import Derived.Test.YtcnohcbhnldglaaGreatM05
import Derived.Test.YtcnohcbhnldglaaGreatM09
import Derived.Test.YtcnohcbhnldglaaGreatM10
import Derived.Test.YtcnohcbhnldglaaGreatM11
import Derived.Test.YtcnohcbhnldglaaGreatM12
import Derived.DeepKeys4
import Derived.Maps.OwnSet
set_option linter.unusedVariables false
set_option linter.unusedSimpArgs false
set_option maxRecDepth 100000
namespace Go.Proofs.YtcnohcbhnldglaaGreat.Asc
section
theorem blank_text15 {c : UInt8} (h : blankB c = true) : textI c.toNat = true := by
  unfold blankB blankI at h
  unfold textI
  simp only [Bool.or_eq_true, beq_iff_eq] at h
  simp only [Bool.or_eq_true, beq_iff_eq, decide_eq_true_eq]
  rcases h with h | h
  · exact .inl (.inr ⟨by omega, by omega⟩)
  · exact .inl (.inl h)
theorem text_app {a b : List UInt8} (h1 : textL a = true) (h2 : textL b = true) : textL (a ++ b) = true :=
  text_mk fun c hc => by
    rcases List.mem_append.1 hc with q | q
    · exact text_byte h1 c q
    · exact text_byte h2 c q
theorem text_trim15 {l : List UInt8} (h : textL (trimL l) = true) : textL l = true := by
  obtain ⟨a, b, e, ha, hb, _⟩ := trim_split l
  refine text_mk fun c hc => ?_
  rw [e] at hc
  rcases List.mem_append.1 hc with q | q
  · exact blank_text15 (ha c q)
  · rcases List.mem_append.1 q with q | q
    · exact text_byte h c q
    · exact blank_text15 (hb c q)
theorem unq_text {l u : List UInt8} (h : unqL l = some u) : textL l = true := by
  obtain ⟨m, rfl, hm, _⟩ := unq_parts h
  refine text_mk fun c hc => ?_
  rcases List.mem_cons.1 hc with rfl | hc
  · decide
  · rcases List.mem_append.1 hc with q | q
    · exact text_byte hm c q
    · rw [List.mem_singleton.1 q]; decide
theorem cut_join15 {c : UInt8} {l : List UInt8} (h : cutB c l = true) : l = cut1 c l ++ c :: cut2 c l := by
  unfold cutB at h
  have hm := List.contains_iff_mem.1 h
  unfold cut1 cut2
  conv => lhs; rw [← List.takeWhile_append_dropWhile (p := (· != c)) (l := l)]
  congr 1
  cases hd : l.dropWhile (· != c) with
  | nil =>
    have e := List.takeWhile_append_dropWhile (p := (· != c)) (l := l)
    rw [hd, List.append_nil] at e
    have hm2 : c ∈ l.takeWhile (· != c) := by rw [e]; exact hm
    have := (List.all_eq_true.1 (List.all_takeWhile (p := (· != c)) (l := l))) c hm2
    simp at this
  | cons d r =>
    have := List.head?_dropWhile_not (· != c) l
    rw [hd] at this
    have e : d = c := by simpa using this
    rw [e]; rfl
theorem param_text {x : List UInt8} {p : F} (h : paramL x = some p) : textL x = true := by
  unfold paramL at h
  split at h
  · cases h
  · rename_i hc
    have hB : cutB 61 x = true := by
      cases hh : cutB 61 x with
      | true => rfl
      | false => exact absurd (.inl hh) hc
    have hT : tokL (cut1 61 x) = true := by
      cases hh : tokL (cut1 61 x) with
      | true => rfl
      | false => exact absurd (.inr hh) hc
    have h2 : textL (cut2 61 x) = true := by
      split at h
      · rename_i hv; exact tok_text hv
      · cases hu : unqL (cut2 61 x) with
        | none => rw [hu] at h; cases h
        | some u => exact unq_text hu
    rw [cut_join15 hB]
    refine text_app (tok_text hT) (text_mk fun c hc => ?_)
    rcases List.mem_cons.1 hc with rfl | hc
    · decide
    · exact text_byte h2 c hc
theorem parF_text : ∀ (ps : List (List UInt8)) (acc L : List F), parF ps acc = some L → ∀ p ∈ ps, textL p = true
  | [], acc, L, _, p, hp => by simp at hp
  | q :: ps, acc, L, h, p, hp => by
    unfold parF at h
    split at h
    · rename_i ht
      rcases List.mem_cons.1 hp with rfl | hp
      · exact text_trim15 (by rw [ht]; rfl)
      · exact parF_text ps acc L h p hp
    · cases hq : paramL (trimL q) with
      | none => rw [hq] at h; cases h
      | some f =>
        rw [hq] at h
        rcases List.mem_cons.1 hp with rfl | hp
        · exact text_trim15 (param_text hq)
        · exact parF_text ps _ L h p hp
theorem cut_chars {sep : UInt8} : ∀ (f : Nat) (q : Bool) (l acc : List UInt8), l.length ≤ f → ∀ c ∈ acc ++ l, c = sep ∨ ∃ p ∈ cutF sep f q l acc, c ∈ p
  | f, q, [], acc, _, c, hc => .inr ⟨acc, by rw [cutF_nil]; simp, by simpa using hc⟩
  | 0, q, d :: r, acc, h, c, hc => by simp at h
  | f + 1, q, d :: r, acc, h, c, hc => by
    simp only [List.length_cons] at h
    rw [cutF_cons]
    split
    · match r, h, hc with
      | [], h, hc => exact .inr ⟨acc ++ [d], by simp, hc⟩
      | e :: r2, h, hc =>
        simp only [List.length_cons] at h
        exact cut_chars f q r2 (acc ++ [d, e]) (by omega) c (by simpa using hc)
    · split
      · exact cut_chars f (!q) r (acc ++ [d]) (by omega) c (by simpa using hc)
      · split
        · rename_i hs
          rcases List.mem_append.1 hc with hq | hq
          · exact .inr ⟨acc, by simp, hq⟩
          · rcases List.mem_cons.1 hq with rfl | hq
            · exact .inl hs.1
            · rcases cut_chars f q r [] (by omega) c (by simpa using hq) with g | ⟨p, g1, g2⟩
              · exact .inl g
              · exact .inr ⟨p, by simp [g1], g2⟩
        · exact cut_chars f q r (acc ++ [d]) (by omega) c (by simpa using hc)
theorem media_text {s : List UInt8} {m : M} (h : mediaL s = some m) : textL s = true := by
  unfold mediaL at h
  cases hr : rangeL s with
  | none => rw [hr] at h; cases h
  | some t =>
    unfold rangeL at hr
    cases hp : parL s with
    | none => rw [hp] at hr; cases hr
    | some vL =>
      obtain ⟨v, L⟩ := vL
      rw [hp] at hr
      simp only at hr
      cases ht : typeL v with
      | none => rw [ht] at hr; cases hr
      | some ab =>
        unfold parL at hp
        cases hc : cutL 59 s with
        | nil => rw [hc] at hp; cases hp
        | cons x ps =>
          rw [hc] at hp
          simp only at hp
          split at hp
          · cases hp
          · cases hf : parF ps [] with
            | none => rw [hf] at hp; cases hp
            | some K =>
              rw [hf] at hp
              simp only [Option.some.injEq, Prod.mk.injEq] at hp
              obtain ⟨rfl, rfl⟩ := hp
              have hx : textL x = true := by
                refine text_trim15 ?_
                unfold typeL at ht
                split at ht
                · cases ht
                · rename_i h1
                  split at ht
                  · cases ht
                  · rename_i h2
                    split at ht
                    · cases ht
                    · rename_i h3
                      have hB : cutB 47 (trimL x) = true := by simpa using h1
                      rw [cut_join15 hB]
                      refine text_app (tok_text (by simpa using h2)) (text_mk fun c hc => ?_)
                      rcases List.mem_cons.1 hc with rfl | hc
                      · decide
                      · exact text_byte (tok_text (by simpa using h3)) c hc
              have hps := parF_text ps [] K hf
              refine text_mk fun c hcs => ?_
              rcases cut_chars (sep := 59) s.length false s [] (Nat.le_refl _) c (by simpa using hcs) with rfl | ⟨p, hp1, hp2⟩
              · decide
              · rw [show cutF 59 s.length false s [] = x :: ps from hc] at hp1
                rcases List.mem_cons.1 hp1 with rfl | hp1
                · exact text_byte hx c hp2
                · exact text_byte (hps p hp1) c hp2
theorem value_text {n x : ByteArray} (h : valueV n x = true) : textL x.data.toList = true := by
  unfold valueV at h
  split at h
  · rw [Bool.and_eq_true] at h
    obtain ⟨m, hm⟩ := Option.isSome_iff_exists.1 h.1
    exact media_text hm
  · split at h
    · exact tok_text (range_tok (by unfold rangeT; rw [h, Bool.or_true]))
    · split at h
      · rw [Bool.and_eq_true] at h; exact tok_text h.1
      · rw [Bool.and_eq_true, Bool.and_eq_true] at h; exact h.1.2
theorem word_ne (v : List UInt8) : wordW v ≠ [] := by
  unfold wordW
  split
  · rename_i h
    rw [Bool.and_eq_true] at h
    intro e; subst e
    simp [visL] at h
  · unfold quoteL; simp
theorem word_read {v : List UInt8} (h : textL v = true) : readV (wordW v) = some v := by
  unfold wordW
  split
  · rename_i hv
    rw [Bool.and_eq_true] at hv
    unfold readV; rw [if_pos hv.2]
  · have := unq_quote_text h
    unfold quoteL at this ⊢
    rw [read_quo]; exact this
theorem word_piece {sep : UInt8} (hs : plainC sep = false) {v p : List UInt8} (hp : Piece sep p) : Piece sep (wordW v ++ p) := by
  unfold wordW
  split
  · rename_i hv
    rw [Bool.and_eq_true, List.all_eq_true] at hv
    refine Piece.plain (fun c hc => ⟨(plain_ne (hv.2 c hc)).1, fun e => ?_⟩) hp
    have := hv.2 c hc
    rw [e, hs] at this; cases this
  · exact Piece.quote sep v hp
theorem cut_words : ∀ (V : List (List UInt8)) (x : List UInt8), cutL 32 (joinW (x :: V)) = wordW x :: V.map wordW
  | [], x => by
    have := word_piece (sep := 32) rfl (v := x) (Piece.nil 32)
    rw [List.append_nil] at this
    show cutL 32 (wordW x ++ []) = _
    rw [List.append_nil, cut_piece this]; rfl
  | y :: V, x => by
    have h1 := word_piece (sep := 32) rfl (v := x) (Piece.nil 32)
    rw [List.append_nil] at h1
    have e : joinW (x :: y :: V) = wordW x ++ 32 :: joinW (y :: V) := by
      show wordW x ++ (y :: V).flatMap _ = _
      rw [List.flatMap_cons]; rfl
    rw [e, cut_pieces (by decide) _ h1, cut_words V y]; rfl
theorem grp_words : ∀ (V acc : List (List UInt8)), (∀ v ∈ V, textL v = true) → grpF (V.map wordW) acc = some (acc ++ V)
  | [], acc, _ => by simp [grpF]
  | v :: V, acc, h => by
    rw [List.map_cons, grpF_more (word_ne v) (word_read (h v (by simp))), grp_words V _ (fun x hx => h x (by simp [hx]))]
    simp
theorem values_back {V : List (List UInt8)} (h : ∀ v ∈ V, textL v = true) (hne : V ≠ []) : valuesL (writL V) = some V := by
  unfold valuesL writL
  rw [if_neg]
  · have e : ((40 :: (joinW V ++ [41])).drop 1).dropLast = joinW V := by simp
    rw [e, vals_grp _ _ _ (Nat.le_refl _)]
    match V, hne with
    | x :: V, _ =>
      rw [cut_words]
      have := grp_words (x :: V) [] h
      rw [List.map_cons, List.nil_append] at this
      exact this
  · rintro (q | q | q)
    · simp at q; omega
    · simp at q
    · exact q (by rw [show (40 :: (joinW V ++ [41])) = (40 :: joinW V) ++ [41] from rfl]; exact List.getLast?_concat ..)
theorem valid_parts15 {x : AX} (h : validA x = true) : tokL x.1.data.toList = true ∧ lowL x.1.data.toList = x.1.data.toList ∧ 1 ≤ x.2.length ∧ x.2.length ≤ 16 ∧ ∀ v ∈ x.2, textL v.data.toList = true := by
  unfold validA headV at h
  simp only [Bool.and_eq_true, decide_eq_true_eq] at h
  obtain ⟨⟨⟨⟨h1, h2⟩, h3⟩, h4⟩, h5⟩ := h
  refine ⟨h1, h2, h3, h4, fun v hv => ?_⟩
  obtain ⟨i, hi, rfl⟩ := List.mem_iff_getElem.1 hv
  unfold valsV at h5
  have := List.all_eq_true.1 h5 i (List.mem_range.2 hi)
  rw [Bool.and_eq_true, atS_is hi] at this
  exact value_text this.1
theorem join_piece : ∀ (V : List (List UInt8)) {p : List UInt8}, Piece 44 p → Piece 44 (joinW V ++ p)
  | [], p, h => h
  | x :: V, p, h => by
    show Piece 44 ((wordW x ++ V.flatMap fun y => 32 :: wordW y) ++ p)
    rw [List.append_assoc]
    refine word_piece rfl ?_
    have : ∀ (V : List (List UInt8)), Piece 44 ((V.flatMap fun y => 32 :: wordW y) ++ p) := by
      intro V
      induction V with
      | nil => exact h
      | cons y V ih =>
        rw [List.flatMap_cons, List.append_assoc, List.cons_append]
        exact Piece.cons (by decide) (by decide) (word_piece rfl ih)
    exact this V
theorem keep_fit {L : List AX} (hk : keepA L = true) : L.length ≤ 6 ∧ (∀ i (hi : i < L.length), fitA L[i]) := by
  obtain ⟨hl, hp⟩ := keepA_parts hk
  exact ⟨hl, fun i hi => by obtain ⟨a1, a2, a3⟩ := hp i hi; exact ⟨by omega, by omega, fun v hv => by have := a3 v hv; omega⟩⟩
end
section
abbrev KY := List ByteArray
def nmKey : ByteArray := ⟨#[86, 97, 114, 105, 97, 110, 116, 45, 75, 101, 121]⟩
/-- the value of an axis that is the Same -/
def oneK (x : AX) (v : ByteArray) : Option ByteArray := x.2.find? fun y => sameV x.1 v y
/-- a key out of the values of a group, one axis after another -/
def keyA : List AX → KY → KY → Option KY
  | [], [], acc => some acc
  | x :: X, v :: V, acc => match oneK x v with
    | none => none
    | some y => keyA X V (acc ++ [y])
  | [], _ :: _, _ => none
  | _ :: _, [], _ => none
/-- is a key among these -/
def inKy (out : List KY) (k : KY) : Bool := out.any fun y => decide (y = k)
/-- the different keys -/
def keysA (X : List AX) : List KY → List KY → Option (List KY)
  | [], out => some out
  | r :: R, out => match keyA X r [] with
    | none => none
    | some k => keysA X R (if inKy out k = true then out else out ++ [k])
/-- the groups of the members -/
def rawsA : List (List UInt8) → List KY → Option (List KY)
  | [], acc => some acc
  | m :: ms, acc => match valuesL m with
    | none => none
    | some V => rawsA ms (acc ++ [V.map bs])
def keysR (L : List F) (X : List AX) : Int × List KY :=
  if validX X = false then (10, [])
  else if allL nmKey L = [] then (12, [])
  else match rawsA (allL nmKey L) [] with
    | none => (1, [])
    | some R => match keysA X R [] with
      | none => (11, [])
      | some K => (0, K)
theorem keysR_range {L : List F} {X : List AX} (h : validX X = false) : keysR L X = (10, []) := by unfold keysR; rw [if_pos h]
theorem keysR_state {L : List F} {X : List AX} (h : validX X = true) (h2 : allL nmKey L = []) : keysR L X = (12, []) := by unfold keysR; rw [if_neg (by rw [h]; simp), if_pos h2]
theorem keysR_bad {L : List F} {X : List AX} (h : validX X = true) (h2 : allL nmKey L ≠ []) (h3 : rawsA (allL nmKey L) [] = none) : keysR L X = (1, []) := by
  unfold keysR; rw [if_neg (by rw [h]; simp), if_neg h2, h3]
theorem keysR_lim {L : List F} {X : List AX} {R : List KY} (h : validX X = true) (h2 : allL nmKey L ≠ []) (h3 : rawsA (allL nmKey L) [] = some R) (h4 : keysA X R [] = none) : keysR L X = (11, []) := by
  unfold keysR; rw [if_neg (by rw [h]; simp), if_neg h2, h3]; simp only [h4]
theorem keysR_ok {L : List F} {X : List AX} {R K : List KY} (h : validX X = true) (h2 : allL nmKey L ≠ []) (h3 : rawsA (allL nmKey L) [] = some R) (h4 : keysA X R [] = some K) : keysR L X = (0, K) := by
  unfold keysR; rw [if_neg (by rw [h]; simp), if_neg h2, h3]; simp only [h4]
theorem keyA_none {x : AX} {X : List AX} {v : ByteArray} {V acc : KY} (h : oneK x v = none) : keyA (x :: X) (v :: V) acc = none := by
  show (match oneK x v with | none => none | some y => keyA X V (acc ++ [y])) = _; rw [h]
theorem keyA_some {x : AX} {X : List AX} {v y : ByteArray} {V acc : KY} (h : oneK x v = some y) : keyA (x :: X) (v :: V) acc = keyA X V (acc ++ [y]) := by
  show (match oneK x v with | none => none | some y => keyA X V (acc ++ [y])) = _; rw [h]
theorem keyA_len : ∀ (X : List AX) (V acc : KY), V.length ≠ X.length → keyA X V acc = none
  | [], [], acc, h => absurd rfl h
  | [], v :: V, acc, _ => rfl
  | x :: X, [], acc, _ => rfl
  | x :: X, v :: V, acc, h => by
    cases ho : oneK x v with
    | none => exact keyA_none ho
    | some y => rw [keyA_some ho]; exact keyA_len X V _ (fun e => h (by simp [e]))
theorem keysA_none {X : List AX} {r : KY} {R out : List KY} (h : keyA X r [] = none) : keysA X (r :: R) out = none := by
  show (match keyA X r [] with | none => none | some k => keysA X R (if inKy out k = true then out else out ++ [k])) = _; rw [h]
theorem keysA_old {X : List AX} {r k : KY} {R out : List KY} (h : keyA X r [] = some k) (h2 : inKy out k = true) : keysA X (r :: R) out = keysA X R out := by
  show (match keyA X r [] with | none => none | some k => keysA X R (if inKy out k = true then out else out ++ [k])) = _; rw [h]; simp only [h2, if_true]
theorem keysA_new {X : List AX} {r k : KY} {R out : List KY} (h : keyA X r [] = some k) (h2 : inKy out k = false) : keysA X (r :: R) out = keysA X R (out ++ [k]) := by
  show (match keyA X r [] with | none => none | some k => keysA X R (if inKy out k = true then out else out ++ [k])) = _; rw [h]; simp only [h2, Bool.false_eq_true, if_false]
theorem rawsA_none {m : List UInt8} {ms : List (List UInt8)} {acc : List KY} (h : valuesL m = none) : rawsA (m :: ms) acc = none := by
  show (match valuesL m with | none => none | some V => rawsA ms (acc ++ [V.map bs])) = _; rw [h]
theorem rawsA_some {m : List UInt8} {ms V : List (List UInt8)} {acc : List KY} (h : valuesL m = some V) : rawsA (m :: ms) acc = rawsA ms (acc ++ [V.map bs]) := by
  show (match valuesL m with | none => none | some V => rawsA ms (acc ++ [V.map bs])) = _; rw [h]
def uniV (x : AX) : Prop := ∀ v : ByteArray, ∀ i j : Nat, i < j → j < x.2.length → sameV x.1 v (atS x.2 i) = true → sameV x.1 v (atS x.2 j) = false
theorem valid_uni {x : AX} (h : validA x = true) : uniV x := by
  intro v i j hij hj hi
  unfold validA at h
  rw [Bool.and_eq_true] at h
  unfold valsV at h
  have h1 := List.all_eq_true.1 h.2 j (List.mem_range.2 hj)
  rw [Bool.and_eq_true] at h1
  have h2 := List.all_eq_true.1 h1.2 i (List.mem_range.2 hij)
  cases hv : sameV x.1 v (atS x.2 j) with
  | false => rfl
  | true =>
    have h3 : sameV x.1 (atS x.2 j) v = true := by rw [sameV_symm]; exact hv
    rw [sameV_trans h3 hi] at h2
    cases h2
theorem validX_at {L : List AX} (h : validX L = true) (i : Nat) (hi : i < L.length) : validA L[i] = true := by
  unfold validX at h
  rw [Bool.and_eq_true] at h
  unfold axesV at h
  have h1 := List.all_eq_true.1 h.2 i (List.mem_range.2 hi)
  rw [Bool.and_eq_true, atA_is hi] at h1
  exact h1.1
theorem validX_len {L : List AX} (h : validX L = true) : 1 ≤ L.length ∧ L.length ≤ 4 := by
  unfold validX at h
  simp only [Bool.and_eq_true, decide_eq_true_eq] at h
  exact h.1
/-- what the first m values say -/
def hitK (x : AX) (v : ByteArray) (m : Nat) : Option Nat := (List.range m).find? fun j => sameV x.1 v (atS x.2 j)
theorem hitK_more (x : AX) (v : ByteArray) (m : Nat) : hitK x v (m + 1) = match hitK x v m with
    | some j => some j
    | none => if sameV x.1 v (atS x.2 m) = true then some m else none := by
  unfold hitK
  rw [List.range_succ, List.find?_append]
  cases List.find? (fun j => sameV x.1 v (atS x.2 j)) (List.range m) with
  | some j => rfl
  | none =>
    simp only [Option.none_or]
    rw [List.find?_cons]
    cases sameV x.1 v (atS x.2 m) <;> rfl
theorem hitK_lt {x : AX} {v : ByteArray} {m j : Nat} (h : hitK x v m = some j) : j < m ∧ sameV x.1 v (atS x.2 j) = true :=
  ⟨List.mem_range.1 (List.mem_of_find?_eq_some h), by have := List.find?_some h; exact this⟩
theorem oneK_hit (x : AX) (v : ByteArray) : oneK x v = (hitK x v x.2.length).map (atS x.2) := by
  obtain ⟨n, V⟩ := x
  show V.find? (fun y => sameV n v y) = ((List.range V.length).find? fun j => sameV n v (atS V j)).map (atS V)
  have key : ∀ m, m ≤ V.length → (V.take m).find? (fun y => sameV n v y) = ((List.range m).find? fun j => sameV n v (atS V j)).map (atS V) := by
    intro m
    induction m with
    | zero => intro _; rfl
    | succ m ih =>
      intro hm
      have hlt : m < V.length := by omega
      rw [take_next hlt, List.find?_append, ih (by omega), List.range_succ, List.find?_append]
      cases List.find? (fun j => sameV n v (atS V j)) (List.range m) with
      | some j => rfl
      | none =>
        simp only [Option.map_none, Option.none_or]
        rw [List.find?_cons, List.find?_cons, atS_is hlt]
        cases sameV n v V[m]
        · rfl
        · show some V[m] = some (atS V m); rw [atS_is hlt]
  have := key V.length (Nat.le_refl _)
  rwa [List.take_length] at this
def smallK (L : List KY) : Prop := ∀ k ∈ L, k.length ≤ 65000 ∧ ∀ v ∈ k, v.size ≤ 65000
theorem smallK_nil : smallK [] := fun k hk => by cases hk
theorem smallK_more {L : List KY} {k : KY} (h : smallK L) (h1 : k.length ≤ 65000) (h2 : ∀ v ∈ k, v.size ≤ 65000) : smallK (L ++ [k]) := fun x hx => by
  rcases List.mem_append.1 hx with q | q
  · exact h x q
  · rw [List.mem_singleton.1 q]; exact ⟨h1, h2⟩
theorem raw_small {m : List UInt8} {V : List (List UInt8)} (h : valuesL m = some V) (hm : m.length ≤ 65000) : (V.map bs).length ≤ 65000 ∧ ∀ v ∈ V.map bs, v.size ≤ 65000 := by
  obtain ⟨h1, h2⟩ := values_size h
  refine ⟨by rw [List.length_map]; omega, fun v hv => ?_⟩
  obtain ⟨y, hy, rfl⟩ := List.mem_map.1 hv
  rw [bs_size]; have := h2 y hy; omega
theorem rawsA_small : ∀ (ms : List (List UInt8)) (acc R : List KY), rawsA ms acc = some R → smallK acc → (∀ m ∈ ms, m.length ≤ 65000) → smallK R ∧ R.length = acc.length + ms.length
  | [], acc, R, h, ha, _ => by cases h; exact ⟨ha, rfl⟩
  | m :: ms, acc, R, h, ha, hm => by
    cases hv : valuesL m with
    | none => rw [rawsA_none hv] at h; cases h
    | some V =>
      rw [rawsA_some hv] at h
      obtain ⟨h1, h2⟩ := raw_small hv (hm m (by simp))
      obtain ⟨h3, h4⟩ := rawsA_small ms _ R h (smallK_more ha h1 h2) (fun y hy => hm y (by simp [hy]))
      exact ⟨h3, by rw [h4, List.length_append]; simp only [List.length_cons, List.length_nil]; omega⟩
/-- a key has a value of each axis -/
theorem one_mem {x : AX} {v y : ByteArray} (h : oneK x v = some y) : y ∈ x.2 := List.mem_of_find?_eq_some h
theorem keyA_mem : ∀ (X : List AX) (V acc k : KY), keyA X V acc = some k → ∃ t, k = acc ++ t ∧ t.length = X.length ∧ ∀ i (h : i < X.length) (h2 : i < t.length), t[i] ∈ X[i].2
  | [], [], acc, k, h => by cases h; exact ⟨[], by simp, rfl, fun i h => absurd h (by simp)⟩
  | [], v :: V, acc, k, h => by cases h
  | x :: X, [], acc, k, h => by cases h
  | x :: X, v :: V, acc, k, h => by
    cases ho : oneK x v with
    | none => rw [keyA_none ho] at h; cases h
    | some y =>
      rw [keyA_some ho] at h
      obtain ⟨t, h1, h2, h3⟩ := keyA_mem X V _ k h
      refine ⟨y :: t, by rw [h1]; simp, by simp [h2], fun i hi hi2 => ?_⟩
      cases i with
      | zero => exact one_mem ho
      | succ i => exact h3 i (by simpa using hi) (by simpa using hi2)
theorem keyA_small {X : List AX} {V k : KY} (h : keyA X V [] = some k) (hx : X.length ≤ 65000) (hz : smallA X) : k.length ≤ 65000 ∧ ∀ v ∈ k, v.size ≤ 65000 := by
  obtain ⟨t, h1, h2, h3⟩ := keyA_mem X V [] k h
  obtain rfl : k = t := by simpa using h1
  refine ⟨by omega, fun v hv => ?_⟩
  obtain ⟨i, hi, rfl⟩ := List.mem_iff_getElem.1 hv
  have hm := h3 i (by omega) hi
  obtain ⟨j, hj, e⟩ := List.mem_iff_getElem.1 hm
  rw [← e]
  exact (hz i (by omega)).2.2 j hj
/-- what comes of the groups -/
def keysO : Option (List KY) → Int × List KY
  | none => (11, [])
  | some K => (0, K)
def hitI : Option Nat → Int
  | none => -1
  | some m => (m : Int)
theorem hit_new {x : AX} {v : ByteArray} {j : Nat} (hu : uniV x) (hj : j < x.2.length) (h : sameV x.1 v (atS x.2 j) = true) : hitK x v (j + 1) = some j := by
  rw [hitK_more]
  cases hh : hitK x v j with
  | none => simp only; rw [if_pos h]
  | some m =>
    obtain ⟨h1, h2⟩ := hitK_lt hh
    rw [hu v m j h1 hj h2] at h
    cases h
theorem hit_first {x : AX} {v : ByteArray} {j n : Nat} (h0 : hitK x v j = none) (hj : j < n) (h : sameV x.1 v (atS x.2 j) = true) : hitK x v n = some j := by
  unfold hitK at h0 ⊢
  rw [List.find?_range_eq_some]
  refine ⟨h, List.mem_range.2 hj, fun i hi => ?_⟩
  have := List.find?_eq_none.1 h0 i (List.mem_range.2 hi)
  simpa using this
theorem hit_old {x : AX} {v : ByteArray} {j : Nat} (h : sameV x.1 v (atS x.2 j) = false) : hitK x v (j + 1) = hitK x v j := by
  rw [hitK_more]
  cases hh : hitK x v j with
  | none => simp only; rw [if_neg (by rw [h]; simp)]
  | some m => rfl
theorem one_none {x : AX} {v : ByteArray} (h : hitK x v x.2.length = none) : oneK x v = none := by rw [oneK_hit, h]; rfl
theorem one_some {x : AX} {v : ByteArray} {z : Nat} (h : hitK x v x.2.length = some z) : oneK x v = some (atS x.2 z) := by rw [oneK_hit, h]; rfl
theorem inKy_more {out : List KY} {j : Nat} (h : j < out.length) (k : KY) : inKy (out.take (j + 1)) k = (inKy (out.take j) k || decide (out[j] = k)) := by
  unfold inKy
  rw [take_next h, List.any_append]
  simp
end
section
open Go.RowKit Go.ChangeShapes Go.WideShapes Go.Deep
def Kss (w : World) (a : Option Addr) (L : List KY) : Prop :=
  ∀ i (h : i < L.length), ∃ g off v, a = some ⟨g, off, none⟩ ∧ w.cell? ⟨g, off + i, none⟩ = some v ∧ SsV w v L[i]
theorem Kss.below {w w' : World} {a : Option Addr} {L : List KY} (h : Kss w a L) (hb : Below w.heap.size w w') : Kss w' a L := fun i hi => by
  obtain ⟨g, off, v, e, c0, hs⟩ := h i hi
  exact ⟨g, off, v, e, (hb.cell (cell_lt c0)).trans c0, hs.below hb⟩
theorem open_keys {H : Type} {enc : TypeId × Value → H} {W : World} {base : Nat} {sp : Nat → Bool} {held : Bool} {r : Reach} {b0 : Nat} {v : Value} {d : DataW H} {p : List MemPlace}
    (hval : Value.okWide Tryz.prog W r b0 26 v) (h : DataW.Trod enc Tryz.prog W base sp held 26 v d p) :
    ∃ (a : Option Addr) (cap : Nat) (L : List KY), v = .slice a L.length cap ∧ L.length ≤ maxLen ∧ (Kss W a L ∧ ∀ i (hi : i < L.length), L[i].length ≤ maxLen) ∧ L.length ≤ cap := by
  obtain ⟨a0, len, cap, rfl⟩ := okWide_slice Tryz.underlying26 hval
  obtain ⟨fuel, hf⟩ := h
  rcases open_slice1 Tryz.underlying26 (by kernel_rfl) hf with ⟨hcs, hx⟩ | ⟨a, len', cap', m, n, V, D, Pl, hcs, _, hl, hm, hmm, hx, hi⟩
  · simp [Value.cells] at hcs
    obtain ⟨rfl, rfl, rfl⟩ := hcs
    exact ⟨none, 0, [], rfl, Nat.zero_le _, ⟨fun i hi => absurd hi (by simp), fun i hi => absurd hi (by simp)⟩, Nat.le_refl _⟩
  · simp [Value.cells] at hcs
    obtain ⟨rfl, rfl, rfl⟩ := hcs
    have hlm : len ≤ m := by rw [hmm]; split <;> omega
    obtain ⟨g, off, spot⟩ := a
    obtain ⟨L, hL, hP⟩ := choose_list (P := fun i (x : KY) => ∃ v, W.cell? ((⟨g, off, spot⟩ : Addr).add i) = some v ∧ SsV W v x ∧ x.length ≤ maxLen) len (fun i hil => by
      obtain ⟨k0, t0⟩ := hi i (by omega)
      obtain ⟨V', hV, hVm⟩ := open_strs t0
      exact ⟨V', V i, k0, hV, hVm⟩)
    refine ⟨some ⟨g, off, spot⟩, cap, L, by rw [hL], by rw [hL]; omega, ⟨fun i hi2 => ?_, fun i hi2 => by obtain ⟨v, _, _, p3⟩ := hP i hi2; exact p3⟩, by rw [hL]; omega⟩
    obtain ⟨v, p1, p2, _⟩ := hP i hi2
    obtain ⟨z0, _⟩ := hi 0 (by omega)
    have hspot : spot = none := by simpa [Addr.add] using World.cell?_spot z0
    subst hspot
    rw [add_plain] at p1
    exact ⟨g, off, v, rfl, p1, p2⟩
def keepK (L : List KY) : Bool := L.all keepS && decide (L.length ≤ 10)
theorem keepK_more {L : List KY} {k : Nat} (h : k < L.length) (ha : (L.take k).all keepS = true) (h2 : keepS L[k] = true) : (L.take (k + 1)).all keepS = true := by
  rw [take_next h, List.all_append, ha]
  simp [h2]
theorem keepK_bad {L : List KY} {k : Nat} (h : k < L.length) (h1 : keepS L[k] = false) : keepK L = false := by
  have : L.all keepS = false := by rw [List.all_eq_false]; exact ⟨L[k], List.getElem_mem h, by simp [h1]⟩
  unfold keepK; rw [this]; rfl
theorem keepK_long {L : List KY} (h : ¬ L.length ≤ 10) : keepK L = false := by unfold keepK; simp [h]
theorem keepK_end {L : List KY} (ha : (L.take L.length).all keepS = true) (h : L.length ≤ 10) : keepK L = true := by
  rw [List.take_length] at ha
  unfold keepK; rw [ha]; simp [h]
theorem keepK_parts {L : List KY} (h : keepK L = true) : L.length ≤ 10 ∧ ∀ k ∈ L, k.length ≤ 20 ∧ ∀ x ∈ k, x.size ≤ 100 := by
  unfold keepK at h
  simp only [Bool.and_eq_true, decide_eq_true_eq] at h
  exact ⟨h.2, fun k hk => keepS_small (List.all_eq_true.mp h.1 k hk)⟩
set_option maxHeartbeats 1000000 in
theorem keepKeys_any (a : Option Addr) (cap : Nat) (L : List KY) (w : World) (hl : L.length ≤ maxLen) (hF : Box (Kss w a L)) (hS : Box (∀ i (hi : i < L.length), L[i].length ≤ maxLen)) :
    Calls Tryz.prog 12 #[.slice a L.length cap] w fun e w' => e = .returned (.bool (keepK L)) ∧ w = w' := by
  unfold maxLen at hl
  go_enter Tryz.func12, Tryz.ntmps12
  go_wp2
  go_loop [3] (fun i => ∃ k : Nat, k ≤ L.length ∧ k ≤ 11 ∧ i = .int .i64 k ∧ (L.take k).all keepS = true) (fun i => 11 - (intOf i).toNat)
  case atStart => exact ⟨0, Nat.zero_le _, Nat.zero_le _, rfl, rfl⟩
  case round =>
    obtain ⟨k, hk, hk9, rfl, hall⟩ := hrel
    have HA := box hall
    clear hall
    by_cases hlt : k < L.length
    · by_cases h9 : k < 11
      · obtain ⟨g, off, v, rfl, c0, b, c, rfl, hss, hcc⟩ := hF.out k hlt
        have SS := box hss
        have SM := box (hS.out k hlt)
        clear hss hcc
        rcases e2 : keepS L[k] with _ | _
        · have E2 := box e2
          have HN := box (keepK_bad hlt e2)
          clear e2
          go_wp2_with fail
          refine (keepStrings_any b c _ _ SM.out SS).mono ?_; rintro e w1 ⟨rfl, rfl⟩; rw [E2.out]
          go_wp2
          go_ret
          exact ⟨ret_bool HN.out.symm, rfl⟩
        · have E2 := box e2
          have HN := box (keepK_more hlt HA.out e2)
          clear e2
          go_wp2_with fail
          refine (keepStrings_any b c _ _ SM.out SS).mono ?_; rintro e w1 ⟨rfl, rfl⟩; rw [E2.out]
          go_wp2
          go_round
          case rel => exact ⟨k + 1, by omega, by omega, by go_num, HN.out⟩
          case measure => simp [intOf]; omega
      · go_wp2
        go_ret
        exact ⟨ret_bool (by rw [keepK_long (by omega)]; simp; omega), rfl⟩
    · have e : k = L.length := by omega
      have E := box e
      clear e
      by_cases h8 : L.length ≤ 10
      · go_wp2
        go_ret
        refine ⟨ret_bool ?_, rfl⟩
        have ha := HA.out
        rw [E.out] at ha
        rw [keepK_end ha h8]
        simp; omega
      · go_wp2
        go_ret
        exact ⟨ret_bool (by rw [keepK_long h8]; simp; omega), rfl⟩
theorem info_strs : (Tryz.prog.info? 33).map (fun i => (i.zero, i.size, i.bytes)) = some (some (.slice none 0 0), 1, 24) := by kernel_rfl
def CellsK (w : World) (B : Nat) (cs : List Value) (L : List KY) : Prop :=
  cs.length = L.length ∧ (∀ u ∈ cs, u.oneCell' = true) ∧ ∀ i (h : i < L.length), ∃ u, cs[i]? = some u ∧ OwnS w B u L[i]
def OwnK (w : World) (B : Nat) (v : Value) (L : List KY) : Prop := ∃ cs, w.ownsRow B 33 1 v L.length cs ∧ CellsK w B cs L
theorem OwnK.nil (w : World) (B : Nat) : OwnK w B (.slice none 0 0) [] := ⟨[], World.ownsRow_nil _ _ _ _, rfl, by simp, fun i h => absurd h (by simp)⟩
theorem CellsK.next {w w' : World} {B : Nat} {cs : List Value} {L : List KY} (h : CellsK w B cs L) (hb : Below w.heap.size w w') : CellsK w' B cs L :=
  ⟨h.1, h.2.1, fun i hi => by obtain ⟨u, h2, h3⟩ := h.2.2 i hi; exact ⟨u, h2, own_below h3 hb⟩⟩
theorem OwnK.next {w w' : World} {B : Nat} {v : Value} {L : List KY} (h : OwnK w B v L) (hb : Below w.heap.size w w') : OwnK w' B v L := by
  obtain ⟨cs, h1, h2⟩ := h
  exact ⟨cs, own_below h1 hb, h2.next hb⟩
theorem OwnK.le {w : World} {B B' : Nat} {v : Value} {L : List KY} (h : OwnK w B v L) (hB : B' ≤ B) : OwnK w B' v L := by
  obtain ⟨cs, h1, h2⟩ := h
  exact ⟨cs, Go.Joins.ownsRow_le h1 hB, h2.1, h2.2.1, fun i hi => by obtain ⟨u, q2, q3⟩ := h2.2.2 i hi; exact ⟨u, q2, Go.Joins.ownsRow_le q3 hB⟩⟩
theorem OwnK.kss {w : World} {B : Nat} {v : Value} {L : List KY} (h : OwnK w B v L) : ∃ a cap, v = .slice a L.length cap ∧ Kss w a L ∧ L.length ≤ cap := by
  obtain ⟨cs, h, hC⟩ := h
  rcases h.2 with ⟨rfl, hn⟩ | ⟨g, cap, cur, rfl, hB, hg, hc, hm, hs, ht⟩
  · exact ⟨none, 0, by rw [hn], fun i hi => by omega, by omega⟩
  · refine ⟨_, cap, rfl, fun i hi => ?_, hc⟩
    obtain ⟨u, q1, q2⟩ := hC.2.2 i hi
    have hl := hC.1
    rw [← ht] at q1
    rw [List.getElem?_take] at q1
    rw [if_pos (by omega)] at q1
    refine ⟨g, 0, u, rfl, ?_, q2.ssv⟩
    simp only [World.cell?, hg]; simpa using q1
theorem own_grownK {w w' : World} {B n : Nat} {v u : Value} {cs : List Value} {V : List ByteArray} (hv : w.ownsRow B 33 1 v n cs) (hu : OwnS w B u V) (hg : w.grownBy w' v.ownBlock) : OwnS w' B u V := by
  refine ⟨hu.1, ?_⟩
  rcases hu.2 with q | ⟨g, cap, cur, hv2, hB, hgg, r⟩
  · exact .inl q
  · refine .inr ⟨g, cap, cur, hv2, hB, ?_, r⟩
    rw [hg.block g (heap_lt hgg) (fun e => ?_)]
    · exact hgg
    · rcases hv.2 with ⟨rfl, _⟩ | ⟨g2, cap2, cur2, rfl, _, hg2, _⟩
      · simp [Value.ownBlock] at e
      · simp [Value.ownBlock] at e
        subst e
        rw [hgg] at hg2
        simp at hg2
theorem CellsK.grown {w w' : World} {B n : Nat} {v : Value} {xs cs : List Value} {L : List KY} (h : CellsK w B cs L) (hv : w.ownsRow B 33 1 v n xs) (hg : w.grownBy w' v.ownBlock) : CellsK w' B cs L :=
  ⟨h.1, h.2.1, fun i hi => by obtain ⟨u, h2, h3⟩ := h.2.2 i hi; exact ⟨u, h2, own_grownK hv h3 hg⟩⟩
theorem CellsK.more {w : World} {B : Nat} {cs : List Value} {L : List KY} {u : Value} {V : List ByteArray} (h : CellsK w B cs L) (hu : OwnS w B u V) : CellsK w B (cs ++ [u]) (L ++ [V]) := by
  have hone : u.oneCell' = true := by obtain ⟨a, c, e, _⟩ := hu.ss; rw [e]; rfl
  refine ⟨by rw [List.length_append, List.length_append, h.1]; rfl, fun x hx => ?_, fun i hi => ?_⟩
  · rcases List.mem_append.1 hx with q | q
    · exact h.2.1 x q
    · rw [List.mem_singleton.1 q]; exact hone
  · by_cases e : i < L.length
    · obtain ⟨y, h2, h3⟩ := h.2.2 i e
      have hl := h.1
      rw [List.getElem_append_left e, List.getElem?_append_left (by omega)]
      exact ⟨y, h2, h3⟩
    · have hie : i = L.length := by rw [List.length_append] at hi; simp at hi; omega
      subst hie
      have hl := h.1
      rw [List.getElem_append_right (Nat.le_refl _), List.getElem?_append_right (by omega)]
      rw [show L.length - cs.length = 0 from by omega]
      simp only [Nat.sub_self]
      exact ⟨u, rfl, hu⟩
/-- two slices that do not lie in one block -/
def ApartK (v z : Value) : Prop := ∀ k, v.ownBlock = some k → z.ownBlock ≠ some k
theorem OwnK.lt {w : World} {B : Nat} {v : Value} {L : List KY} (h : OwnK w B v L) (k : Nat) (hk : v.ownBlock = some k) : k < w.heap.size := by
  obtain ⟨cs, h1, _⟩ := h
  exact (World.ownsRow.lt h1 k hk).2
theorem OwnK.grown {w w' : World} {B n : Nat} {v z : Value} {xs : List Value} {K : List KY} (h : OwnK w B z K) (hv : w.ownsRow B 33 1 v n xs) (hA : ApartK v z) (hg : w.grownBy w' v.ownBlock) : OwnK w' B z K := by
  obtain ⟨cs, h1, h2⟩ := h
  refine ⟨cs, ⟨h1.1, ?_⟩, h2.grown hv hg⟩
  rcases h1.2 with q | ⟨g, cap, cur, hv2, hB, hgg, r⟩
  · exact .inl q
  · refine .inr ⟨g, cap, cur, hv2, hB, ?_, r⟩
    rw [hg.block g (heap_lt hgg) (fun e => ?_)]
    · exact hgg
    · exact hA g e.symm (by rw [hv2]; rfl)
/-- append of one key that lies in a block of its own -/
theorem wpList_append_key (w : World) {ops : Array Oper} {rest : List Oper} {o : Oper} {a : Act} {Q : Exit → Act → World → Prop} (hgd : o.guard = none) (s x : Operand)
    (ho : o.op = .call { callee := .builtin .append, args := #[s, x], argTypes := #[26, 26] })
    (B : Nat) (v : Value) (L : List KY) (hs : a.eval s = v) (hown : OwnK w B v L)
    (g : Nat) (c : Nat) (hx : a.eval x = .slice (some ⟨g, 0, none⟩) 1 c) (u : Value) (V : KY) (h0 : w.cell? ⟨g, 0, none⟩ = some u) (hu : OwnS w B u V) (hl : L.length ≤ 65536) (hB : B ≤ w.heap.size)
    (h : ∀ v' w', OwnK w' B v' (L ++ [V]) → Below B w w' → OwnS w' B u V → (∀ z K, OwnK w B z K → ApartK v z → OwnK w' B z K ∧ ApartK v' z) → wpList Tryz.prog ops Q rest (a.put o.dst v') w') : wpList Tryz.prog ops Q (o :: rest) a w := by
  obtain ⟨i0, hi0, hz0, hz1, hz2⟩ := info_parts info_strs
  obtain ⟨cs, hown, hC⟩ := hown
  have hone : u.oneCell' = true := by obtain ⟨b, c, e, _⟩ := hu.ss; rw [e]; rfl
  refine wpList_append_lies (P := Tryz.prog) w hgd s x 26 ho B 33 i0 _ 1 24 Tryz.underlying26 hi0 hz0 hz1 hz2 rfl (by decide) v L.length cs hs hown ⟨g, 0, none⟩ 1 c [u] hx rfl ?_ ?_ (by omega) (by unfold maxLen; omega) (by omega) hB _ rfl ?_
  · intro j y hj
    match j, hj with
    | 0, hj => simp at hj; subst hj; simpa [Addr.add] using h0
  · intro y hy; simp at hy; subst hy; exact hone
  · intro g' cap' w' q1 q2 q3 _
    have hu' := own_grownK hown hu q2
    refine h _ w' ⟨cs ++ [u], by rw [List.length_append]; exact q1, (hC.grown hown q2).more hu'⟩ ((Below.refl _ _).grown q2 hB (fun k hk => own_block hown k hk)) hu' (fun z K hz hA => ⟨hz.grown hown hA q2, fun k hk e => ?_⟩)
    simp [Value.ownBlock] at hk
    subst hk
    rcases q3 with q3 | q3
    · exact hA _ q3 e
    · have := hz.lt _ e
      omega
end
section
open Go.RowKit
theorem sameS15_is {a b : Option Addr} {ca cb : Nat} {K L : List ByteArray} {q : Bool} {w : World} (hk : K.length ≤ 65536) (hl : L.length ≤ 65536) (hK : Ss w a K) (hL : Ss w b L) (h : Box (decide (K = L) = q)) :
    Calls Tryz.prog 27 #[.slice a K.length ca, .slice b L.length cb] w fun e w' => e = .returned (.bool q) ∧ Below w.heap.size w w' :=
  (SameS_any a b ca cb K L w hk hl (box hK) (box hL)).mono fun e w' ⟨h1, h2⟩ => ⟨by rw [h1, h.out], h2⟩
end
section
open Go.RowKit
set_option maxHeartbeats 800000 in
theorem slEqual_any (a b : Option Addr) (ca cb : Nat) (K L : List ByteArray) (w : World) (hk : K.length ≤ 65536) (hl : L.length ≤ 65536) (hK : Box (Ss w a K)) (hL : Box (Ss w b L)) :
    Calls Tryz.prog 75 #[.slice a K.length ca, .slice b L.length cb] w fun e w' => e = .returned (.bool (decide (K = L))) ∧ Below w.heap.size w w' := by
  by_cases hn : K.length = L.length
  · have HN := box hn
    have hne : ((K.length : Int) != (L.length : Int)) = false := by simp [hn]
    clear hn
    go_enter Tryz.func75, Tryz.ntmps75
    go_wp2
    go_loopw [13] (fun i wr => ∃ k : Nat, k ≤ K.length ∧ i = .int .i64 k ∧ K.take k = L.take k ∧ Below w.heap.size w wr) (fun i _ => K.length - (intOf i).toNat)
    case atStart => exact ⟨0, Nat.zero_le _, rfl, rfl, Below.refl _ _⟩
    case round =>
      obtain ⟨k, hk2, rfl, hall, hbel⟩ := hrel
      have HA := box hall
      clear hall
      by_cases hlt : k < K.length
      · have hlt2 : k < L.length := by rw [← HN.out]; exact hlt
        obtain ⟨q, off, rfl, c0⟩ := (hK.out.below hbel) k hlt
        obtain ⟨r, off2, rfl, d0⟩ := (hL.out.below hbel) k hlt2
        go_wp2
        go_quiet (fail)
        go_wp2
        · have h : (!K[k].toList == L[k].toList) = true := by assumption
          go_ret
          have hne2 : K[k] ≠ L[k] := fun e => by rw [e] at h; simp at h
          exact ⟨ret_bool (decide_eq_false (not_same hlt hlt2 hne2)).symm, hbel.trans ((below_drewN _ _).mono hbel.size)⟩
        · have h : (!K[k].toList == L[k].toList) = false := by assumption
          have e : K[k] = L[k] := str_eq (by simpa using h)
          have E := box e
          clear e h
          go_roundw
          case rel => exact ⟨k + 1, by omega, by go_num, take_same hlt hlt2 HA.out E.out, hbel.trans ((below_drewN _ _).mono hbel.size)⟩
          case measure => simp [intOf]; omega
      · have e : k = K.length := by omega
        have E : Box (K = L) := box (by
          have h := HA.out
          subst e
          rw [List.take_length, HN.out, List.take_length] at h
          exact h)
        clear e
        go_wp2
        go_ret
        exact ⟨ret_bool (decide_eq_true E.out).symm, hbel⟩
  · have hne : ((K.length : Int) != (L.length : Int)) = true := by simp; omega
    have HN := box hn
    clear hn
    go_enter Tryz.func75, Tryz.ntmps75
    go_wp2
    go_ret
    exact ⟨ret_bool (decide_eq_false (fun e => HN.out (by rw [e]))).symm, Below.refl _ _⟩
theorem slEqual_is {a b : Option Addr} {ca cb : Nat} {K L : List ByteArray} {q : Bool} {w : World} (hk : K.length ≤ 65536) (hl : L.length ≤ 65536) (hK : Ss w a K) (hL : Ss w b L) (h : Box (decide (K = L) = q)) :
    Calls Tryz.prog 75 #[.slice a K.length ca, .slice b L.length cb] w fun e w' => e = .returned (.bool q) ∧ Below w.heap.size w w' :=
  (slEqual_any a b ca cb K L w hk hl (box hK) (box hL)).mono fun e w' ⟨h1, h2⟩ => ⟨by rw [h1, h.out], h2⟩
end
section
open Go.RowKit Go.Maps
theorem lawStr : Keyed Tryz.prog 9 := string_keyed Tryz.underlying9
theorem zeroB15 (w : World) : (zeroValue 4).run Tryz.prog w = .ok (.bool false) w := by kernel_rfl
def skey (s : ByteArray) : Lit := .string s.data.toList
theorem skey_of {s : ByteArray} (h : s.size ≤ maxLen) : keyOf Tryz.prog 9 (.string s) = some (skey s) := by
  simp [keyOf, mapKey, Tryz.underlying9, h, skey]
theorem skey_ne {s t : ByteArray} (h : s ≠ t) : skey s ≠ skey t := by
  unfold skey
  intro e
  refine h ?_
  have : s.data.toList = t.data.toList := by simpa using e
  rw [bs_of s, bs_of t, this]
/-- block b is a set of at most n strings: those of which S says so -/
def SSet (w : World) (b n : Nat) (S : ByteArray → Bool) : Prop :=
  ∃ D : DataW Unit, w.ownsMap Tryz.prog 9 (plainElem Tryz.prog 4) b n D ∧ ∀ s, s.size ≤ maxLen → D.atKey (skey s) (.lit (.bool false)) = .lit (.bool (S s))
def noS : ByteArray → Bool := fun _ => false
def andS (S : ByteArray → Bool) (s : ByteArray) : ByteArray → Bool := fun x => S x || decide (x = s)
theorem SSet.made (w : World) : SSet (w.alloc (.map #[] 0)) w.heap.size 0 noS :=
  ⟨_, World.ownsMap_made _ _ _ _, fun s _ => Maps.atKey_of_not_has (by simp [Maps.has]) _⟩
section
variable {w w' : World} {b n : Nat} {S : ByteArray → Bool}
theorem SSet.below {B : Nat} (h : SSet w b n S) (hb : Below B w w') (hB : b < B) : SSet w' b n S := by
  obtain ⟨D, ⟨es, clock, h1, r⟩, h2⟩ := h
  exact ⟨D, ⟨es, clock, (hb.block b hB).trans h1, r⟩, h2⟩
theorem SSet.lt (h : SSet w b n S) : b < w.heap.size := by obtain ⟨D, h1, h2⟩ := h; exact h1.lt
theorem SSet.mono {m : Nat} (h : SSet w b n S) (hm : n ≤ m) : SSet w b m S := by obtain ⟨D, h1, h2⟩ := h; exact ⟨D, h1.mono hm, h2⟩
theorem SSet.same {T : ByteArray → Bool} (h : SSet w b n S) (hT : ∀ s, S s = T s) : SSet w b n T := by
  obtain ⟨D, h1, h2⟩ := h
  exact ⟨D, h1, fun s hs => by rw [h2 s hs, hT]⟩
theorem SSet.put {s : ByteArray} (h : SSet w b n S) (hs : s.size ≤ maxLen) (hn : n < maxLen) :
    ∃ w', (Instr.mapUpdate 56 (.map (some b)) (.string s) (.bool true)).run Tryz.prog w = .ok () w' ∧ SSet w' b (n + 1) (andS S s) ∧ w.grownBy w' (some b) := by
  obtain ⟨D, h1, h2⟩ := h
  obtain ⟨w', r1, r2, r3⟩ := h1.update lawStr Tryz.underlying56 hn (skey_of hs) (plainElem_bool Tryz.underlying4 true)
  refine ⟨w', r1, ⟨_, r2, fun t ht => ?_⟩, r3⟩
  by_cases e : t = s
  · subst e
    rw [Maps.atKey_put_same h1.isMap (lawStr.key (skey_of hs))]
    simp [andS]
  · rw [Maps.atKey_put_other (skey_ne e), h2 t ht]
    simp [andS, e]
theorem SSet.look {s : ByteArray} (h : SSet w b n S) (hs : s.size ≤ maxLen) :
    (Instr.lookup 56 (.map (some b)) (.string s) false).run Tryz.prog w = .ok (.bool (S s)) w := by
  obtain ⟨D, h1, h2⟩ := h
  obtain ⟨v, ps, hrun, hv⟩ := h1.lookup lawStr Tryz.underlying56 (zeroB15 w) (plainElem_bool Tryz.underlying4 false) (skey_of hs)
  rw [h2 s hs] at hv
  rw [hrun]
  have : v = .bool (S s) := by
    unfold plainElem at hv
    rw [Tryz.underlying4] at hv
    cases v <;> simp at hv
    rw [hv.1]
  rw [this]
end
theorem makeMap15 (w : World) : (Instr.makeMap 56 none).run Tryz.prog w = .ok (.map (some w.heap.size)) (w.alloc (.map #[] 0)) := by
  simp [Instr.makeMap, run_underlying Tryz.underlying56, Result.andThen]
theorem andS_in {S : ByteArray → Bool} {s : ByteArray} (h : S s = true) : ∀ x, S x = andS S s x := by
  intro x
  unfold andS
  by_cases e : x = s
  · subst e; rw [h]; simp
  · simp [e]
/-- add: was the string not there? behind it, it is -/
theorem add_any (b n : Nat) (S : ByteArray → Bool) (s : ByteArray) (q : Bool) (w : World) (hs : s.size ≤ maxLen) (hn : n < maxLen) (h : Box (SSet w b n S)) (hq : Box (S s = q)) :
    Calls Tryz.prog 37 #[.map (some b), .string s] w fun e w' => e = .returned (.bool (!q)) ∧ SSet w' b (n + 1) (andS S s) ∧ Below b w w' := by
  have hL := h.out.look hs
  obtain ⟨w2, hP, hS2, hg⟩ := h.out.put hs hn
  rw [hq.out] at hL
  have H2 := box (And.intro hS2 hg)
  clear hS2 hg
  cases q with
  | true =>
    go_enter Tryz.func37, Tryz.ntmps37
    go_wp2
    go_ret
    exact ⟨rfl, (h.out.same (andS_in hq.out)).mono (Nat.le_succ _), Below.refl _ _⟩
  | false =>
    go_enter Tryz.func37, Tryz.ntmps37
    go_wp2
    go_ret
    exact ⟨rfl, H2.out.1, (Below.refl _ _).grown H2.out.2 (Nat.le_of_lt h.out.lt) (fun k hk => by cases hk; exact Nat.le_refl _)⟩
end
section
open Go.RowKit
theorem mName0_any (k : Int) (w : World) (hk : InI64 k) :
    Calls Tryz.prog 103 #[.int .i64 k] w fun e w' => e = .returned (.string (nameK k)) ∧ w = w' := by
  by_cases h1 : k = 1
  · subst h1
    go_enter Tryz.func103, Tryz.ntmps103
    go_wp2
    go_ret
    exact ⟨rfl, rfl⟩
  · by_cases h2 : k = 2
    · subst h2
      go_enter Tryz.func103, Tryz.ntmps103
      go_wp2
      go_ret
      exact ⟨rfl, rfl⟩
    · by_cases h3 : k = 3
      · subst h3
        go_enter Tryz.func103, Tryz.ntmps103
        go_wp2
        go_ret
        exact ⟨rfl, rfl⟩
      · by_cases h4 : k = 4
        · subst h4
          go_enter Tryz.func103, Tryz.ntmps103
          go_wp2
          go_ret
          exact ⟨rfl, rfl⟩
        · have HV := box (name_no h1 h2 h3 h4)
          have e1 : (k == 1) = false := by rw [beq_eq_false_iff_ne]; exact h1
          have e2 : (k == 2) = false := by rw [beq_eq_false_iff_ne]; exact h2
          have e3 : (k == 3) = false := by rw [beq_eq_false_iff_ne]; exact h3
          have e4 : (k == 4) = false := by rw [beq_eq_false_iff_ne]; exact h4
          clear h1 h2 h3 h4
          go_enter Tryz.func103, Tryz.ntmps103
          go_wp2
          go_ret
          exact ⟨by rw [HV.out]; rfl, rfl⟩
theorem mName0_is {k : Int} {x : ByteArray} {w : World} (hk : InI64 k) (h : Box (nameK k = x)) :
    Calls Tryz.prog 103 #[.int .i64 k] w fun e w' => e = .returned (.string x) ∧ w = w' :=
  (mName0_any k w hk).mono fun e w' ⟨h1, h2⟩ => ⟨by rw [h1, h.out], h2⟩
theorem mFold13_is {a b : ByteArray} {q : Bool} {w : World} (ha : a.size ≤ 65536) (hb : b.size ≤ 65536) (h : Box (foldL a.data.toList b.data.toList = q)) :
    Calls Tryz.prog 93 #[.string a, .string b] w fun e w' => e = .returned (.bool q) ∧ Below w.heap.size w w' :=
  (Fold_any a b w (by unfold maxLen; omega) (by unfold maxLen; omega)).mono fun e w' ⟨h1, h2⟩ => ⟨by rw [h1, h.out], h2⟩
/-- the names up to j are others -/
def KdMRel (n : ByteArray) (W : World) (i : Value) (wr : World) : Prop := ∃ j : Int, i = .int .i64 j ∧ (j = 0 ∨ j = 1 ∨ j = 2 ∨ j = 3 ∨ j = 4) ∧ Box (∀ i : Int, 1 ≤ i → i ≤ j → foldL n.data.toList (nameK i).data.toList = false) ∧ Below W.heap.size W wr
theorem kind_atI {n : ByteArray} {j : Int} (h1 : 1 ≤ j) (h4 : j ≤ 4) (hn : ∀ i : Int, 1 ≤ i → i < j → foldL n.data.toList (nameK i).data.toList = false) (h : foldL n.data.toList (nameK j).data.toList = true) : kindN n = j := by
  have e : ((j.toNat : Nat) : Int) = j := by omega
  have := kind_at (n := n) (j := j.toNat) (by omega) (by omega) (fun i a b => hn i (by omega) (by omega)) (by rw [e]; exact h)
  rw [e] at this; exact this
theorem kind_moreI {n x : ByteArray} {j k : Int} (hk : k = j + 1) (hx : nameK k = x) (hn : ∀ i : Int, 1 ≤ i → i ≤ j → foldL n.data.toList (nameK i).data.toList = false) (h : foldL n.data.toList x.data.toList = false) : ∀ i : Int, 1 ≤ i → i ≤ k → foldL n.data.toList (nameK i).data.toList = false := by
  intro i h1 h2
  by_cases e : i = k
  · rw [e, hx]; exact h
  · exact hn i h1 (by omega)
set_option maxHeartbeats 1000000 in
theorem mKind_any (n : ByteArray) (w : World) (hn : n.size ≤ 65536) :
    Calls Tryz.prog 85 #[.string n] w fun e w' => e = .returned (.int .i64 (kindN n)) ∧ Below w.heap.size w w' := by
  have ix0 : ∀ w, (Instr.index 111 (.agg #[.int .i64 1, .int .i64 2, .int .i64 3, .int .i64 4]) (.int .i64 0)).run Tryz.prog w = .ok (.int .i64 1) w := fun w => by rfl
  have ix1 : ∀ w, (Instr.index 111 (.agg #[.int .i64 1, .int .i64 2, .int .i64 3, .int .i64 4]) (.int .i64 1)).run Tryz.prog w = .ok (.int .i64 2) w := fun w => by rfl
  have ix2 : ∀ w, (Instr.index 111 (.agg #[.int .i64 1, .int .i64 2, .int .i64 3, .int .i64 4]) (.int .i64 2)).run Tryz.prog w = .ok (.int .i64 3) w := fun w => by rfl
  have ix3 : ∀ w, (Instr.index 111 (.agg #[.int .i64 1, .int .i64 2, .int .i64 3, .int .i64 4]) (.int .i64 3)).run Tryz.prog w = .ok (.int .i64 4) w := fun w => by rfl
  go_enter Tryz.func85, Tryz.ntmps85
  go_wp2
  go_loopw [6] (fun i wr => KdMRel n w i wr) (fun i _ => 4 - (intOf i).toNat)
  case atStart => exact ⟨0, rfl, .inl rfl, box (fun i h1 h2 => by omega), Below.refl _ _⟩
  case round =>
    obtain ⟨j, rfl, hj, HNO, hbel⟩ := hrel
    have BL := box hbel
    clear hbel
    rcases hj with rfl | rfl | rfl | rfl | rfl
    · obtain ⟨x, hx⟩ : ∃ x, nameK 1 = x := ⟨_, rfl⟩
      have HX := box hx
      have hxz : x.size ≤ 65536 := by have := name_size 1; rw [hx] at this; omega
      cases hf : foldL n.data.toList x.data.toList with
      | true =>
        have HF := box hf
        have HV : Box (kindN n = 1) := box (kind_atI (by omega) (by omega) (fun i h1 h2 => HNO.out i h1 (by omega)) (by rw [hx]; exact hf))
        clear hf hx
        go_wp2_with fail
        refine (mName0_is ⟨by omega, by omega⟩ HX).mono ?_; rintro e w1 ⟨rfl, rfl⟩
        go_wp2_with fail
        refine (mFold13_is hn hxz HF).mono ?_; rintro e w2 ⟨rfl, hb2⟩
        have B2 := box (BL.out.trans (hb2.mono BL.out.size))
        clear hb2
        go_wp2
        go_ret
        exact ⟨by rw [HV.out]; rfl, B2.out⟩
      | false =>
        have HF := box hf
        have HN2 := box (kind_moreI (k := 1) (by omega) hx HNO.out hf)
        clear hf hx
        go_wp2_with fail
        refine (mName0_is ⟨by omega, by omega⟩ HX).mono ?_; rintro e w1 ⟨rfl, rfl⟩
        go_wp2_with fail
        refine (mFold13_is hn hxz HF).mono ?_; rintro e w2 ⟨rfl, hb2⟩
        have B2 := box (BL.out.trans (hb2.mono BL.out.size))
        clear hb2
        go_wp2
        go_roundw
        case rel => exact ⟨1, by go_num, by omega, HN2, B2.out⟩
        case measure => simp [intOf]
    · obtain ⟨x, hx⟩ : ∃ x, nameK 2 = x := ⟨_, rfl⟩
      have HX := box hx
      have hxz : x.size ≤ 65536 := by have := name_size 2; rw [hx] at this; omega
      cases hf : foldL n.data.toList x.data.toList with
      | true =>
        have HF := box hf
        have HV : Box (kindN n = 2) := box (kind_atI (by omega) (by omega) (fun i h1 h2 => HNO.out i h1 (by omega)) (by rw [hx]; exact hf))
        clear hf hx
        go_wp2_with fail
        refine (mName0_is ⟨by omega, by omega⟩ HX).mono ?_; rintro e w1 ⟨rfl, rfl⟩
        go_wp2_with fail
        refine (mFold13_is hn hxz HF).mono ?_; rintro e w2 ⟨rfl, hb2⟩
        have B2 := box (BL.out.trans (hb2.mono BL.out.size))
        clear hb2
        go_wp2
        go_ret
        exact ⟨by rw [HV.out]; rfl, B2.out⟩
      | false =>
        have HF := box hf
        have HN2 := box (kind_moreI (k := 2) (by omega) hx HNO.out hf)
        clear hf hx
        go_wp2_with fail
        refine (mName0_is ⟨by omega, by omega⟩ HX).mono ?_; rintro e w1 ⟨rfl, rfl⟩
        go_wp2_with fail
        refine (mFold13_is hn hxz HF).mono ?_; rintro e w2 ⟨rfl, hb2⟩
        have B2 := box (BL.out.trans (hb2.mono BL.out.size))
        clear hb2
        go_wp2
        go_roundw
        case rel => exact ⟨2, by go_num, by omega, HN2, B2.out⟩
        case measure => simp [intOf]
    · obtain ⟨x, hx⟩ : ∃ x, nameK 3 = x := ⟨_, rfl⟩
      have HX := box hx
      have hxz : x.size ≤ 65536 := by have := name_size 3; rw [hx] at this; omega
      cases hf : foldL n.data.toList x.data.toList with
      | true =>
        have HF := box hf
        have HV : Box (kindN n = 3) := box (kind_atI (by omega) (by omega) (fun i h1 h2 => HNO.out i h1 (by omega)) (by rw [hx]; exact hf))
        clear hf hx
        go_wp2_with fail
        refine (mName0_is ⟨by omega, by omega⟩ HX).mono ?_; rintro e w1 ⟨rfl, rfl⟩
        go_wp2_with fail
        refine (mFold13_is hn hxz HF).mono ?_; rintro e w2 ⟨rfl, hb2⟩
        have B2 := box (BL.out.trans (hb2.mono BL.out.size))
        clear hb2
        go_wp2
        go_ret
        exact ⟨by rw [HV.out]; rfl, B2.out⟩
      | false =>
        have HF := box hf
        have HN2 := box (kind_moreI (k := 3) (by omega) hx HNO.out hf)
        clear hf hx
        go_wp2_with fail
        refine (mName0_is ⟨by omega, by omega⟩ HX).mono ?_; rintro e w1 ⟨rfl, rfl⟩
        go_wp2_with fail
        refine (mFold13_is hn hxz HF).mono ?_; rintro e w2 ⟨rfl, hb2⟩
        have B2 := box (BL.out.trans (hb2.mono BL.out.size))
        clear hb2
        go_wp2
        go_roundw
        case rel => exact ⟨3, by go_num, by omega, HN2, B2.out⟩
        case measure => simp [intOf]
    · obtain ⟨x, hx⟩ : ∃ x, nameK 4 = x := ⟨_, rfl⟩
      have HX := box hx
      have hxz : x.size ≤ 65536 := by have := name_size 4; rw [hx] at this; omega
      cases hf : foldL n.data.toList x.data.toList with
      | true =>
        have HF := box hf
        have HV : Box (kindN n = 4) := box (kind_atI (by omega) (by omega) (fun i h1 h2 => HNO.out i h1 (by omega)) (by rw [hx]; exact hf))
        clear hf hx
        go_wp2_with fail
        refine (mName0_is ⟨by omega, by omega⟩ HX).mono ?_; rintro e w1 ⟨rfl, rfl⟩
        go_wp2_with fail
        refine (mFold13_is hn hxz HF).mono ?_; rintro e w2 ⟨rfl, hb2⟩
        have B2 := box (BL.out.trans (hb2.mono BL.out.size))
        clear hb2
        go_wp2
        go_ret
        exact ⟨by rw [HV.out]; rfl, B2.out⟩
      | false =>
        have HF := box hf
        have HN2 := box (kind_moreI (k := 4) (by omega) hx HNO.out hf)
        clear hf hx
        go_wp2_with fail
        refine (mName0_is ⟨by omega, by omega⟩ HX).mono ?_; rintro e w1 ⟨rfl, rfl⟩
        go_wp2_with fail
        refine (mFold13_is hn hxz HF).mono ?_; rintro e w2 ⟨rfl, hb2⟩
        have B2 := box (BL.out.trans (hb2.mono BL.out.size))
        clear hb2
        go_wp2
        go_roundw
        case rel => exact ⟨4, by go_num, by omega, HN2, B2.out⟩
        case measure => simp [intOf]
    · have HV : Box (kindN n = 0) := box (kind_no fun i hi1 hi2 => HNO.out i (by omega) (by omega))
      go_wp2
      go_ret
      exact ⟨by rw [HV.out]; rfl, BL.out⟩
end
section
open Go.RowKit Go.Maps
/-- what a parameter reads as when it is a key -/
def pkey (p : F) : Lit := .string (keyBytes [.string p.1.data.toList, .string p.2.data.toList])
def Sml (p : F) : Prop := p.1.size ≤ maxLen ∧ p.2.size ≤ maxLen
/-- block b is a set of at most n parameters: those of which S says so -/
def PSet (w : World) (b n : Nat) (S : F → Prop) : Prop :=
  ∃ D : DataW Unit, w.ownsMap Tryz.prog 108 (plainElem Tryz.prog 4) b n D ∧ ∀ kl, Maps.has D kl = true ↔ ∃ p, S p ∧ Sml p ∧ pkey p = kl
section
variable {w w' : World} {b n : Nat} {S : F → Prop}
theorem PSet.made (w : World) : PSet (w.alloc (.map #[] 0)) w.heap.size 0 (fun _ => False) :=
  ⟨_, World.ownsMap_made _ _ _ _, fun kl => by simp [Maps.has]⟩
theorem PSet.below {B : Nat} (h : PSet w b n S) (hb : Below B w w') (hB : b < B) : PSet w' b n S := by
  obtain ⟨D, ⟨es, clock, h1, r⟩, h2⟩ := h
  exact ⟨D, ⟨es, clock, (hb.block b hB).trans h1, r⟩, h2⟩
theorem PSet.lt (h : PSet w b n S) : b < w.heap.size := by obtain ⟨D, h1, h2⟩ := h; exact h1.lt
theorem PSet.mono {m : Nat} (h : PSet w b n S) (hm : n ≤ m) : PSet w b m S := by obtain ⟨D, h1, h2⟩ := h; exact ⟨D, h1.mono hm, h2⟩
end
end
end Go.Proofs.YtcnohcbhnldglaaGreat.Asc
