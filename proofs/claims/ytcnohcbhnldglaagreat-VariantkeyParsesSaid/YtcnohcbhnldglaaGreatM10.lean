/- Merged texts: AccSpec3 VarSpec6 VarSpec2 VarSpec3 VarSpec4 LisPc VarSpec5. -/
import Derived.Test.YtcnohcbhnldglaaGreatM01
import Derived.Test.YtcnohcbhnldglaaGreatM02
import Derived.Test.YtcnohcbhnldglaaGreatM03
import Derived.Test.YtcnohcbhnldglaaGreatM07
import Derived.Test.YtcnohcbhnldglaaGreatM08
import Derived.Test.YtcnohcbhnldglaaGreatM09
set_option linter.unusedVariables false
set_option linter.unusedSimpArgs false
set_option maxRecDepth 100000
namespace Go.Proofs.YtcnohcbhnldglaaGreat.Asc
section
/-- a text that is a member -/
def IsMem (m : List UInt8) : Prop := m ≠ [] ∧ trimL m = m ∧ cutL 44 m = [m] ∧ endF m.length false m = false
end
section
theorem sameV_refl (n x : ByteArray) : sameV n x x = true := by
  unfold sameV
  split
  · exact fold_refl _
  · split
    · exact decide_eq_true rfl
    · exact decide_eq_true rfl
theorem sameV_symm (n x y : ByteArray) : sameV n y x = sameV n x y := by
  unfold sameV
  split
  · exact fold_symm _ _
  · split
    · exact decide_eq_decide.2 ⟨Eq.symm, Eq.symm⟩
    · exact decide_eq_decide.2 ⟨Eq.symm, Eq.symm⟩
theorem sameV_trans {n x y z : ByteArray} (h1 : sameV n x y = true) (h2 : sameV n y z = true) : sameV n x z = true := by
  unfold sameV at h1 h2 ⊢
  split at h1
  · rename_i hk
    rw [if_pos hk] at h2 ⊢
    exact fold_trans h1 h2
  · rename_i hk
    rw [if_neg hk] at h2 ⊢
    split at h1
    · rename_i hk2
      rw [if_pos hk2] at h2 ⊢
      exact decide_eq_true ((of_decide_eq_true h1).trans (of_decide_eq_true h2))
    · rename_i hk2
      rw [if_neg hk2] at h2 ⊢
      exact decide_eq_true ((of_decide_eq_true h1).trans (of_decide_eq_true h2))
end
section
def plainC (c : UInt8) : Bool := c != 32 && c != 9 && c != 40 && c != 41 && c != 44 && c != 34
/-- how many bytes a quoted string takes behind its first quote, its last quote among them -/
def qE : List UInt8 → Option Nat
  | [] => none
  | [c] => if c = 34 then some 1 else none
  | c :: d :: r => if c = 34 then some 1 else if c = 92 then (qE r).map (· + 2) else (qE (d :: r)).map (· + 1)
theorem qE_quo (r : List UInt8) : qE (34 :: r) = some 1 := by cases r <;> rfl
theorem qE_esc (d : UInt8) (r : List UInt8) : qE (92 :: d :: r) = (qE r).map (· + 2) := rfl
theorem qE_any {c : UInt8} (r : List UInt8) (h1 : c ≠ 34) (h2 : c ≠ 92) : qE (c :: r) = (qE r).map (· + 1) := by
  cases r with
  | nil => show (if c = 34 then _ else _) = _; rw [if_neg h1]; rfl
  | cons d r => show (if c = 34 then _ else if c = 92 then _ else _) = _; rw [if_neg h1, if_neg h2]
/-- a value and how many bytes it takes -/
def wordE : List UInt8 → Option (List UInt8 × Nat)
  | [] => none
  | c :: r => if c = 34 then (qE r).bind fun n => (unqL (34 :: r.take n)).map fun u => (u, n + 1)
    else if plainC c = false then none else some ((c :: r).takeWhile plainC, ((c :: r).takeWhile plainC).length)
theorem wordE_cons (c : UInt8) (r : List UInt8) : wordE (c :: r) = if c = 34 then (qE r).bind fun n => (unqL (34 :: r.take n)).map fun u => (u, n + 1)
    else if plainC c = false then none else some ((c :: r).takeWhile plainC, ((c :: r).takeWhile plainC).length) := rfl
theorem wordE_pos {l v : List UInt8} {n : Nat} (h : wordE l = some (v, n)) : 1 ≤ n := by
  cases l with
  | nil => cases h
  | cons c r =>
    rw [wordE_cons] at h
    by_cases hc : c = 34
    · rw [if_pos hc] at h
      obtain ⟨m, hm, h⟩ := Option.bind_eq_some_iff.1 h
      obtain ⟨u, hu, h⟩ := Option.map_eq_some_iff.1 h
      simp only [Prod.mk.injEq] at h
      omega
    · rw [if_neg hc] at h
      by_cases hp : plainC c = false
      · rw [if_pos hp] at h; cases h
      · rw [if_neg hp] at h
        have hp2 : plainC c = true := by simpa using hp
        simp only [Option.some.injEq, Prod.mk.injEq] at h
        rw [List.takeWhile_cons_of_pos hp2] at h
        have := h.2
        rw [List.length_cons] at this; omega
def valsF : Nat → List UInt8 → List (List UInt8) → Option (List (List UInt8))
  | _, [], acc => some acc
  | 0, _ :: _, _ => none
  | f + 1, c :: r, acc => if c = 32 then valsF f r acc else match wordE (c :: r) with
    | none => none
    | some (v, n) => match (c :: r).drop n with
      | [] => some (acc ++ [v])
      | d :: r2 => if d = 32 then valsF f (d :: r2) (acc ++ [v]) else none
theorem valsF_nil (f : Nat) (acc : List (List UInt8)) : valsF f [] acc = some acc := by cases f <;> rfl
theorem valsF_cons (f : Nat) (c : UInt8) (r : List UInt8) (acc : List (List UInt8)) : valsF (f + 1) (c :: r) acc = if c = 32 then valsF f r acc else match wordE (c :: r) with
    | none => none
    | some (v, n) => match (c :: r).drop n with
      | [] => some (acc ++ [v])
      | d :: r2 => if d = 32 then valsF f (d :: r2) (acc ++ [v]) else none := rfl
theorem valsF_fuel : ∀ (f g : Nat) (l : List UInt8) (acc : List (List UInt8)), l.length ≤ f → l.length ≤ g → valsF f l acc = valsF g l acc
  | f, g, [], acc, _, _ => by rw [valsF_nil, valsF_nil]
  | 0, g, c :: r, acc, h, _ => by simp at h
  | f + 1, 0, c :: r, acc, _, h => by simp at h
  | f + 1, g + 1, c :: r, acc, hf, hg => by
    simp only [List.length_cons] at hf hg
    rw [valsF_cons, valsF_cons]
    split
    · exact valsF_fuel f g r acc (by omega) (by omega)
    · split
      · rfl
      · rename_i v n hw
        have hn := wordE_pos hw
        split
        · rfl
        · rename_i d r2 hd
          have hl : (d :: r2).length ≤ r.length := by rw [← hd, List.length_drop, List.length_cons]; omega
          split
          · exact valsF_fuel f g (d :: r2) _ (by omega) (by omega)
          · rfl
def valsL (l : List UInt8) (acc : List (List UInt8)) : Option (List (List UInt8)) := valsF l.length l acc
theorem valsL_nil (acc : List (List UInt8)) : valsL [] acc = some acc := rfl
theorem valsL_sp (r : List UInt8) (acc : List (List UInt8)) : valsL (32 :: r) acc = valsL r acc := by
  unfold valsL; rw [List.length_cons, valsF_cons, if_pos rfl]
theorem valsL_none {c : UInt8} {r : List UInt8} {acc : List (List UInt8)} (hc : c ≠ 32) (h : wordE (c :: r) = none) : valsL (c :: r) acc = none := by
  unfold valsL; rw [List.length_cons, valsF_cons, if_neg hc, h]
theorem valsL_end {c : UInt8} {r v : List UInt8} {n : Nat} {acc : List (List UInt8)} (hc : c ≠ 32) (h : wordE (c :: r) = some (v, n)) (hr : (c :: r).drop n = []) : valsL (c :: r) acc = valsL ((c :: r).drop n) (acc ++ [v]) := by
  unfold valsL; rw [List.length_cons, valsF_cons, if_neg hc, h]
  simp only
  rw [hr]; rfl
theorem valsL_bad {c d : UInt8} {r v r2 : List UInt8} {n : Nat} {acc : List (List UInt8)} (hc : c ≠ 32) (h : wordE (c :: r) = some (v, n)) (hr : (c :: r).drop n = d :: r2) (hd : d ≠ 32) : valsL (c :: r) acc = none := by
  unfold valsL; rw [List.length_cons, valsF_cons, if_neg hc, h]
  simp only [hr]
  rw [if_neg hd]
theorem valsL_word {c : UInt8} {r v r2 : List UInt8} {n : Nat} {acc : List (List UInt8)} (hc : c ≠ 32) (h : wordE (c :: r) = some (v, n)) (hr : (c :: r).drop n = 32 :: r2) : valsL (c :: r) acc = valsL ((c :: r).drop n) (acc ++ [v]) := by
  have hn := wordE_pos h
  unfold valsL; rw [List.length_cons, valsF_cons, if_neg hc, h]
  simp only [hr, if_true]
  refine valsF_fuel _ _ _ _ ?_ (Nat.le_refl _)
  have := congrArg List.length hr
  rw [List.length_drop, List.length_cons, List.length_cons] at this
  rw [List.length_cons]; omega
def valuesL (s : List UInt8) : Option (List (List UInt8)) := if s.length < 2 ∨ s.head? ≠ some 40 ∨ s.getLast? ≠ some 41 then none else valsL ((s.drop 1).dropLast) []
/-- the steps, by places: within a quoted string -/
theorem q_any {l : List UInt8} {i : Nat} (hi : i < l.length) (h1 : l[i] ≠ 34) (h2 : l[i] ≠ 92) : qE (l.drop i) = (qE (l.drop (i + 1))).map (· + 1) := by
  rw [List.drop_eq_getElem_cons hi]; exact qE_any _ h1 h2
theorem q_esc {l : List UInt8} {i : Nat} (hi : i < l.length) (h : l[i] = 92) : qE (l.drop i) = (qE (l.drop (i + 2))).map (· + 2) := by
  rw [List.drop_eq_getElem_cons hi, h]
  by_cases h2 : i + 1 < l.length
  · rw [List.drop_eq_getElem_cons h2, qE_esc]
  · rw [List.drop_of_length_le (i := i + 1) (by omega), List.drop_of_length_le (i := i + 2) (by omega)]; rfl
theorem q_hit {l : List UInt8} {i : Nat} (hi : i < l.length) (h : l[i] = 34) : qE (l.drop i) = some 1 := by
  rw [List.drop_eq_getElem_cons hi, h]; exact qE_quo _
theorem q_end {l : List UInt8} {i : Nat} (hi : l.length ≤ i) : qE (l.drop i) = none := by rw [List.drop_of_length_le hi]; rfl
def QAt (l : List UInt8) (f i : Nat) : Prop := qE (l.drop f) = (qE (l.drop i)).map (· + (i - f))
theorem QAt.start (l : List UInt8) (f : Nat) : QAt l f f := by unfold QAt; simp
theorem QAt.any {l : List UInt8} {f i : Nat} (h : QAt l f i) (hf : f ≤ i) (hi : i < l.length) (h1 : l[i] ≠ 34) (h2 : l[i] ≠ 92) : QAt l f (i + 1) := by
  unfold QAt at h ⊢
  rw [h, q_any hi h1 h2, Option.map_map]
  congr 1
  funext x
  show x + 1 + (i - f) = x + (i + 1 - f)
  omega
theorem QAt.esc {l : List UInt8} {f i : Nat} (h : QAt l f i) (hf : f ≤ i) (hi : i < l.length) (h1 : l[i] = 92) : QAt l f (i + 2) := by
  unfold QAt at h ⊢
  rw [h, q_esc hi h1, Option.map_map]
  congr 1
  funext x
  show x + 2 + (i - f) = x + (i + 2 - f)
  omega
theorem QAt.hit {l : List UInt8} {f i : Nat} (h : QAt l f i) (hf : f ≤ i) (hi : i < l.length) (h1 : l[i] = 34) : qE (l.drop f) = some (i + 1 - f) := by
  unfold QAt at h
  rw [h, q_hit hi h1]
  show some (1 + (i - f)) = _
  congr 1; omega
theorem QAt.fin {l : List UInt8} {f i : Nat} (h : QAt l f i) (hi : l.length ≤ i) : qE (l.drop f) = none := by
  unfold QAt at h
  rw [h, q_end hi]; rfl
/-- .. in a run of plain bytes -/
def PAt (l : List UInt8) (f i : Nat) : Prop := (l.drop f).takeWhile plainC = (l.drop f).take (i - f) ++ (l.drop i).takeWhile plainC
theorem PAt.start (l : List UInt8) (f : Nat) : PAt l f f := by unfold PAt; simp
theorem PAt.step {l : List UInt8} {f i : Nat} (h : PAt l f i) (hf : f ≤ i) (hi : i < l.length) (hp : plainC l[i] = true) : PAt l f (i + 1) := by
  unfold PAt at h ⊢
  rw [h, List.drop_eq_getElem_cons hi, List.takeWhile_cons_of_pos hp]
  have e : (l.drop f).take (i + 1 - f) = (l.drop f).take (i - f) ++ [l[i]] := by
    have hlt : i - f < (l.drop f).length := by rw [List.length_drop]; omega
    rw [show i + 1 - f = i - f + 1 from by omega, List.take_succ_eq_append_getElem hlt]
    congr 2
    rw [List.getElem_drop]
    congr 1; omega
  rw [e, List.append_assoc]; rfl
theorem PAt.stop {l : List UInt8} {f i : Nat} (h : PAt l f i) (hi : ∀ (hi : i < l.length), plainC l[i] = false) : (l.drop f).takeWhile plainC = (l.drop f).take (i - f) := by
  unfold PAt at h
  rw [h]
  have : (l.drop i).takeWhile plainC = [] := by
    by_cases hlt : i < l.length
    · rw [List.drop_eq_getElem_cons hlt, List.takeWhile_cons_of_neg (by rw [hi hlt]; simp)]
    · rw [List.drop_of_length_le (by omega)]; rfl
  rw [this, List.append_nil]
theorem word_quo {l u : List UInt8} {f n : Nat} (hf : f < l.length) (h : l[f] = 34) (hq : qE (l.drop (f + 1)) = some n) (hu : unqL ((l.drop f).take (n + 1)) = some u) : wordE (l.drop f) = some (u, n + 1) := by
  rw [List.drop_eq_getElem_cons hf, h] at hu ⊢
  rw [List.take_succ_cons] at hu
  rw [wordE_cons, if_pos rfl, hq]
  simp [hu]
theorem word_quo0 {l : List UInt8} {f n : Nat} (hf : f < l.length) (h : l[f] = 34) (hq : qE (l.drop (f + 1)) = some n) (hu : unqL ((l.drop f).take (n + 1)) = none) : wordE (l.drop f) = none := by
  rw [List.drop_eq_getElem_cons hf, h] at hu ⊢
  rw [List.take_succ_cons] at hu
  rw [wordE_cons, if_pos rfl, hq]
  simp [hu]
theorem word_quo1 {l : List UInt8} {f : Nat} (hf : f < l.length) (h : l[f] = 34) (hq : qE (l.drop (f + 1)) = none) : wordE (l.drop f) = none := by
  rw [List.drop_eq_getElem_cons hf, h]
  rw [wordE_cons, if_pos rfl, hq]; rfl
theorem word_no {l : List UInt8} {f : Nat} (hf : f < l.length) (h : l[f] ≠ 34) (hp : plainC l[f] = false) : wordE (l.drop f) = none := by
  rw [List.drop_eq_getElem_cons hf]
  rw [wordE_cons, if_neg h, if_pos hp]
theorem word_bare {l : List UInt8} {f i : Nat} (hf : f < l.length) (h : l[f] ≠ 34) (hp : plainC l[f] = true) (hfi : f ≤ i) (hil : i ≤ l.length) (ht : (l.drop f).takeWhile plainC = (l.drop f).take (i - f)) : wordE (l.drop f) = some ((l.drop f).take (i - f), i - f) := by
  have e : l.drop f = l[f] :: l.drop (f + 1) := List.drop_eq_getElem_cons hf
  rw [← ht]
  have hl : ((l.drop f).takeWhile plainC).length = i - f := by rw [ht, List.length_take, List.length_drop]; omega
  rw [e] at hl ⊢
  rw [wordE_cons, if_neg h, if_neg (by rw [hp]; simp), hl]
theorem vals_at_none {l : List UInt8} {f : Nat} {acc : List (List UInt8)} (hf : f < l.length) (hc : l[f] ≠ 32) (h : wordE (l.drop f) = none) : valsL (l.drop f) acc = none := by
  rw [List.drop_eq_getElem_cons hf] at h ⊢; exact valsL_none hc h
theorem vals_at_sp {l : List UInt8} {f : Nat} {acc : List (List UInt8)} (hf : f < l.length) (hc : l[f] = 32) : valsL (l.drop f) acc = valsL (l.drop (f + 1)) acc := by
  rw [List.drop_eq_getElem_cons hf, hc]; exact valsL_sp _ _
theorem vals_at_bad {l v : List UInt8} {f i : Nat} {acc : List (List UInt8)} (hf : f < l.length) (hc : l[f] ≠ 32) (hfi : f ≤ i) (h : wordE (l.drop f) = some (v, i - f)) (hi : i < l.length) (hd : l[i] ≠ 32) : valsL (l.drop f) acc = none := by
  have e : (l.drop f).drop (i - f) = l[i] :: l.drop (i + 1) := by rw [List.drop_drop, show f + (i - f) = i from by omega, List.drop_eq_getElem_cons hi]
  rw [List.drop_eq_getElem_cons hf] at h e ⊢
  exact valsL_bad hc h e hd
theorem vals_at_word {l v : List UInt8} {f i : Nat} {acc : List (List UInt8)} (hf : f < l.length) (hc : l[f] ≠ 32) (hfi : f ≤ i) (h : wordE (l.drop f) = some (v, i - f)) (hi : l.length ≤ i ∨ ∃ hi : i < l.length, l[i] = 32) : valsL (l.drop f) acc = valsL (l.drop i) (acc ++ [v]) := by
  have e : (l.drop f).drop (i - f) = l.drop i := by rw [List.drop_drop, show f + (i - f) = i from by omega]
  rw [← e]
  rcases hi with hi | ⟨hi, hd⟩
  · have e2 : (l.drop f).drop (i - f) = [] := by rw [e, List.drop_of_length_le hi]
    rw [List.drop_eq_getElem_cons hf] at h e2 ⊢
    exact valsL_end hc h e2
  · have e2 : (l.drop f).drop (i - f) = 32 :: l.drop (i + 1) := by rw [e, List.drop_eq_getElem_cons hi, hd]
    rw [List.drop_eq_getElem_cons hf] at h e2 ⊢
    exact valsL_word hc h e2
end
section
theorem word_size {l v : List UInt8} {n : Nat} (h : wordE l = some (v, n)) : v.length ≤ l.length + 1 := by
  cases l with
  | nil => cases h
  | cons c r =>
    rw [wordE_cons] at h
    by_cases hc : c = 34
    · rw [if_pos hc] at h
      obtain ⟨m, hm, h⟩ := Option.bind_eq_some_iff.1 h
      obtain ⟨u, hu, h⟩ := Option.map_eq_some_iff.1 h
      simp only [Prod.mk.injEq] at h
      have := (unq_facts hu).1
      rw [List.length_cons, List.length_take] at this
      rw [← h.1, List.length_cons]; omega
    · rw [if_neg hc] at h
      by_cases hp : plainC c = false
      · rw [if_pos hp] at h; cases h
      · rw [if_neg hp] at h
        simp only [Option.some.injEq, Prod.mk.injEq] at h
        rw [← h.1]
        have := (List.takeWhile_sublist plainC (l := c :: r)).length_le
        omega
theorem valsF_size : ∀ (f : Nat) (l : List UInt8) (acc X : List (List UInt8)) (B : Nat), valsF f l acc = some X → (∀ v ∈ acc, v.length ≤ B) → l.length + 1 ≤ B → X.length ≤ acc.length + l.length ∧ ∀ v ∈ X, v.length ≤ B
  | f, [], acc, X, B, h, ha, _ => by rw [valsF_nil] at h; cases h; exact ⟨by simp, ha⟩
  | 0, c :: r, acc, X, B, h, _, _ => by cases h
  | f + 1, c :: r, acc, X, B, h, ha, hB => by
    rw [List.length_cons] at hB
    rw [valsF_cons] at h
    by_cases hc : c = 32
    · rw [if_pos hc] at h
      obtain ⟨h1, h2⟩ := valsF_size f r acc X B h ha (by omega)
      exact ⟨by rw [List.length_cons]; omega, h2⟩
    · rw [if_neg hc] at h
      cases hw : wordE (c :: r) with
      | none => rw [hw] at h; cases h
      | some p =>
        obtain ⟨v, n⟩ := p
        rw [hw] at h
        have hn := wordE_pos hw
        have hs := word_size hw
        rw [List.length_cons] at hs
        have ha2 : ∀ x ∈ acc ++ [v], x.length ≤ B := fun x hx => by
          rcases List.mem_append.1 hx with q | q
          · exact ha x q
          · rw [List.mem_singleton.1 q]; omega
        simp only at h
        cases hd : (c :: r).drop n with
        | nil =>
          rw [hd] at h
          cases h
          exact ⟨by rw [List.length_append]; simp, ha2⟩
        | cons d r2 =>
          rw [hd] at h
          simp only at h
          by_cases h3 : d = 32
          · rw [if_pos h3] at h
            have hnl : n ≤ (c :: r).length := by
              rcases Nat.lt_or_ge (c :: r).length n with q | q
              · rw [List.drop_of_length_le (by omega)] at hd; cases hd
              · exact q
            have hl : (d :: r2).length + n = (c :: r).length := by rw [← hd, List.length_drop]; omega
            rw [List.length_cons (a := c)] at hl
            obtain ⟨h1, h2⟩ := valsF_size f (d :: r2) _ X B h ha2 (by omega)
            refine ⟨?_, h2⟩
            rw [List.length_append] at h1
            simp only [List.length_cons, List.length_nil] at h1 hl ⊢
            omega
          · rw [if_neg h3] at h; cases h
theorem values_size {l : List UInt8} {X : List (List UInt8)} (h : valuesL l = some X) : X.length ≤ l.length ∧ ∀ v ∈ X, v.length ≤ l.length := by
  unfold valuesL at h
  split at h
  · cases h
  · rename_i q
    have h2 : ¬ l.length < 2 := fun e => q (.inl e)
    have hl : ((l.drop 1).dropLast).length = l.length - 1 - 1 := by rw [List.length_dropLast, List.length_drop]
    obtain ⟨h3, h4⟩ := valsF_size _ _ _ _ l.length h (by simp) (by omega)
    exact ⟨by simp only [List.length_nil] at h3; omega, h4⟩
end
section
def wordW (v : List UInt8) : List UInt8 := if (visL v && v.all plainC) = true then v else quoteL v
def joinW : List (List UInt8) → List UInt8
  | [] => []
  | x :: r => wordW x ++ r.flatMap fun y => 32 :: wordW y
def writL (V : List (List UInt8)) : List UInt8 := 40 :: (joinW V ++ [41])
theorem word_len (v : List UInt8) : (wordW v).length ≤ 2 * v.length + 2 := by
  unfold wordW
  split
  · omega
  · unfold quoteL
    have := escL_len v
    rw [List.length_cons, List.length_append]; simp only [List.length_cons, List.length_nil]; omega
theorem joinW_more {V : List (List UInt8)} {k : Nat} (h : k < V.length) : joinW (V.take (k + 1)) = (if k = 0 then [] else joinW (V.take k) ++ [32]) ++ wordW V[k] := by
  cases V with
  | nil => simp at h
  | cons x r =>
    cases k with
    | zero => simp [joinW]
    | succ k =>
      have hk : k < r.length := by simpa using h
      rw [if_neg (by omega), List.take_succ_cons, List.take_succ_cons, List.getElem_cons_succ]
      show wordW x ++ (r.take (k + 1)).flatMap _ = (wordW x ++ (r.take k).flatMap _ ++ [32]) ++ wordW r[k]
      rw [take_next hk, List.flatMap_append]
      simp
theorem joinW_len {V : List (List UInt8)} {n : Nat} (hz : ∀ v ∈ V, v.length ≤ n) : ∀ k, (joinW (V.take k)).length ≤ k * (2 * n + 3)
  | 0 => by simp [joinW]
  | k + 1 => by
    have ih := joinW_len hz k
    by_cases h : k < V.length
    · rw [joinW_more h, List.length_append]
      have h1 := word_len V[k]
      have h2 := hz V[k] (List.getElem_mem h)
      have h3 : (if k = 0 then ([] : List UInt8) else joinW (V.take k) ++ [32]).length ≤ k * (2 * n + 3) + 1 := by
        split
        · simp
        · rw [List.length_append]; simp only [List.length_cons, List.length_nil]; omega
      rw [Nat.add_mul]; omega
    · rw [List.take_of_length_le (by omega)]
      rw [List.take_of_length_le (by omega)] at ih
      rw [Nat.add_mul]; omega
def fitA (x : AX) : Prop := x.1.size ≤ 1000 ∧ x.2.length ≤ 20 ∧ ∀ v ∈ x.2, v.size ≤ 1000
theorem writ_len {V : List ByteArray} (h1 : V.length ≤ 20) (h2 : ∀ v ∈ V, v.size ≤ 1000) : (writL (V.map fun v => v.data.toList)).length ≤ 41000 := by
  have := joinW_len (V := V.map fun v => v.data.toList) (n := 1000) (fun v hv => by
    obtain ⟨y, hy, rfl⟩ := List.mem_map.1 hv
    have := h2 y hy
    simpa using this) V.length
  rw [List.take_of_length_le (by simp)] at this
  unfold writL
  rw [List.length_cons, List.length_append]
  simp only [List.length_cons, List.length_nil]
  have : V.length * (2 * 1000 + 3) ≤ 20 * 2003 := Nat.mul_le_mul h1 (by omega)
  omega
end
section
/-- outside quoted strings (0), within one (1), behind a backslash within one (2) -/
def stepQ (s : Nat) (c : UInt8) : Nat := if s = 0 then (if c = 34 then 1 else 0) else if s = 1 then (if c = 34 then 0 else if c = 92 then 2 else 1) else 1
def pcF (sep : UInt8) : Nat → List UInt8 → List UInt8 → List UInt8 × List UInt8 × Bool
  | _, [], acc => (acc, [], false)
  | s, c :: r, acc => if s = 0 ∧ c = sep then (acc, r, true) else pcF sep (stepQ s c) r (acc ++ [c])
def pcL (sep : UInt8) (l : List UInt8) : List UInt8 × List UInt8 × Bool := pcF sep 0 l []
def moreL (sep : UInt8) (m : Bool) (l : List UInt8) : List (List UInt8) := if m then cutL sep l else []
theorem pcF_cons (sep : UInt8) (s : Nat) (c : UInt8) (r acc : List UInt8) : pcF sep s (c :: r) acc = if s = 0 ∧ c = sep then (acc, r, true) else pcF sep (stepQ s c) r (acc ++ [c]) := rfl
def qS (q : Bool) : Nat := if q = true then 1 else 0
theorem cut_pc {sep : UInt8} (hs : sep ≠ 34) : ∀ (f : Nat) (q : Bool) (l acc : List UInt8), l.length ≤ f → cutF sep f q l acc = (pcF sep (qS q) l acc).1 :: moreL sep (pcF sep (qS q) l acc).2.2 (pcF sep (qS q) l acc).2.1
  | f, q, [], acc, _ => by rw [cutF_nil]; rfl
  | 0, q, c :: r, acc, h => by simp at h
  | f + 1, q, c :: r, acc, h => by
    simp only [List.length_cons] at h
    rw [cutF_cons, pcF_cons]
    by_cases h1 : q = true ∧ c = 92
    · obtain ⟨rfl, rfl⟩ := h1
      rw [if_pos ⟨rfl, rfl⟩, if_neg (fun h => absurd h.1 (by decide))]
      match r, h with
      | [], h => rfl
      | d :: r2, h =>
        simp only [List.length_cons] at h
        simp only
        rw [cut_pc hs f true r2 _ (by omega), pcF_cons, if_neg (fun h => absurd h.1 (by decide)), List.append_assoc]
        rfl
    · rw [if_neg h1]
      by_cases h2 : c = 34
      · subst h2
        rw [if_pos rfl, if_neg (fun h => hs h.2.symm), cut_pc hs f (!q) r _ (by omega)]
        cases q <;> rfl
      · rw [if_neg h2]
        by_cases h3 : c = sep ∧ q = false
        · obtain ⟨rfl, rfl⟩ := h3
          rw [if_pos ⟨rfl, rfl⟩, if_pos ⟨rfl, rfl⟩]
          show acc :: cutF c f false r [] = acc :: cutF c r.length false r []
          rw [cutF_fuel f r.length false r [] (by omega) (Nat.le_refl _)]
        · rw [if_neg h3]
          have e : stepQ (qS q) c = qS q := by
            unfold stepQ
            cases q
            · show (if (0 : Nat) = 0 then _ else _) = _
              rw [if_pos rfl, if_neg h2]; rfl
            · show (if (1 : Nat) = 0 then _ else if (1 : Nat) = 1 then _ else _) = _
              rw [if_neg (by decide), if_pos rfl, if_neg h2, if_neg (fun h => h1 ⟨rfl, h⟩)]; rfl
          have n : ¬ (qS q = 0 ∧ c = sep) := by
            rintro ⟨h5, h6⟩
            cases q
            · exact h3 ⟨h6, rfl⟩
            · exact absurd h5 (by decide)
          rw [if_neg n, e, cut_pc hs f q r _ (by omega)]
theorem cutL_pc {sep : UInt8} (hs : sep ≠ 34) (l : List UInt8) : cutL sep l = (pcL sep l).1 :: moreL sep (pcL sep l).2.2 (pcL sep l).2.1 := cut_pc hs l.length false l [] (Nat.le_refl _)
/-- the steps, by places -/
def pcAt (sep : UInt8) (s : Nat) (l : List UInt8) (k : Nat) : List UInt8 × List UInt8 × Bool := pcF sep s (l.drop k) (l.take k)
theorem pc_start (sep : UInt8) (l : List UInt8) : pcL sep l = pcAt sep 0 l 0 := by unfold pcL pcAt; simp
theorem pc_end {sep : UInt8} {s : Nat} {l : List UInt8} {k : Nat} (h : l.length ≤ k) : pcAt sep s l k = (l, [], false) := by
  unfold pcAt; rw [List.drop_of_length_le h, List.take_of_length_le h]; rfl
theorem pc_sep {sep : UInt8} {l : List UInt8} {k : Nat} (hk : k < l.length) (h : l[k] = sep) : pcAt sep 0 l k = (l.take k, l.drop (k + 1), true) := by
  unfold pcAt; rw [List.drop_eq_getElem_cons hk, pcF_cons, if_pos ⟨rfl, h⟩]
theorem pc_step {sep : UInt8} {s : Nat} {l : List UInt8} {k : Nat} (hk : k < l.length) (h : ¬ (s = 0 ∧ l[k] = sep)) : pcAt sep s l k = pcAt sep (stepQ s l[k]) l (k + 1) := by
  unfold pcAt
  rw [List.drop_eq_getElem_cons hk, pcF_cons, if_neg h, List.take_add_one, List.getElem?_eq_getElem hk]; rfl
theorem stepQ_le (s : Nat) (c : UInt8) : stepQ s c ≤ 2 := by unfold stepQ; repeat' split <;> try omega
/-- sizes -/
theorem pcF_size (sep : UInt8) : ∀ (l : List UInt8) (s : Nat) (acc : List UInt8), (pcF sep s l acc).1.length + (pcF sep s l acc).2.1.length ≤ acc.length + l.length ∧ ((pcF sep s l acc).2.2 = true → (pcF sep s l acc).2.1.length < l.length)
  | [], s, acc => ⟨by simp [pcF], fun h => by simp [pcF] at h⟩
  | c :: r, s, acc => by
    rw [pcF_cons]
    split
    · refine ⟨by simp only [List.length_cons]; omega, fun _ => by simp⟩
    · obtain ⟨h1, h2⟩ := pcF_size sep r (stepQ s c) (acc ++ [c])
      simp only [List.length_append, List.length_cons, List.length_nil] at h1 ⊢
      exact ⟨by omega, fun h => by have := h2 h; omega⟩
/-- the members of a value behind others, as long as there is room -/
def addL (A : List (List UInt8)) (ps : List (List UInt8)) : List (List UInt8) := (A ++ memL ps).take 64
theorem addL_nil {A : List (List UInt8)} (h : A.length ≤ 64) : addL A [] = A := by unfold addL memL; simp [List.take_of_length_le h]
theorem addL_full {A ps : List (List UInt8)} (h : A.length = 64) : addL A ps = A := by
  unfold addL; rw [List.take_append_of_le_length (by omega), List.take_of_length_le (by omega)]
theorem memL_cons (p : List UInt8) (ps : List (List UInt8)) : memL (p :: ps) = (if trimL p = [] then [] else [trimL p]) ++ memL ps := by
  rw [show p :: ps = [p] ++ ps from rfl, memL_append]
  congr 1
  split
  · rename_i e; unfold memL; simp [e]
  · rename_i e; exact memL_one e
theorem addL_blank {A ps : List (List UInt8)} {p : List UInt8} (h : trimL p = []) : addL A (p :: ps) = addL A ps := by unfold addL; rw [memL_cons, if_pos h, List.nil_append]
theorem addL_more {A ps : List (List UInt8)} {p : List UInt8} (h : trimL p ≠ []) : addL A (p :: ps) = addL (A ++ [trimL p]) ps := by unfold addL; rw [memL_cons, if_neg h, List.append_assoc]
theorem addL_all {vs : List ByteArray} {k : Nat} (h : k < vs.length) : (allF (vs.take (k + 1))).take 64 = addL ((allF (vs.take k)).take 64) (cutL 44 vs[k].data.toList) := by
  rw [allF_more h]
  unfold addL splitL
  generalize (allF (vs.take k)).take 64 = X
  rw [List.take_append, List.take_append, List.take_take]
  congr 2
  omega
end
section
/-- the value that a piece stands for -/
def readV (t : List UInt8) : Option (List UInt8) := if (t.all plainC) = true then some t else unqL t
def grpF : List (List UInt8) → List (List UInt8) → Option (List (List UInt8))
  | [], acc => some acc
  | t :: r, acc => if t = [] then grpF r acc else match readV t with
    | none => none
    | some v => grpF r (acc ++ [v])
theorem grpF_skip {r acc : List (List UInt8)} : grpF ([] :: r) acc = grpF r acc := by unfold grpF; rw [if_pos rfl]; cases r <;> rfl
theorem grpF_bad {t : List UInt8} {r acc : List (List UInt8)} (h : t ≠ []) (h2 : readV t = none) : grpF (t :: r) acc = none := by
  unfold grpF; rw [if_neg h, h2]
theorem grpF_more {t v : List UInt8} {r acc : List (List UInt8)} (h : t ≠ []) (h2 : readV t = some v) : grpF (t :: r) acc = grpF r (acc ++ [v]) := by
  conv => lhs; unfold grpF
  rw [if_neg h, h2]
theorem pc_quoted (sep : UInt8) : ∀ (k : Nat) (r acc : List UInt8), r.length ≤ k → (∀ n, qE r = some n → pcF sep 1 r acc = pcF sep 0 (r.drop n) (acc ++ r.take n) ∧ n ≤ r.length) ∧ (qE r = none → pcF sep 1 r acc = (acc ++ r, [], false))
  | k, [], acc, _ => ⟨fun n h => (by cases h), fun _ => by simp [pcF]⟩
  | 0, c :: r, acc, h => by simp at h
  | k + 1, c :: r, acc, h => by
    simp only [List.length_cons] at h
    rw [pcF_cons, if_neg (fun q => absurd q.1 (by decide))]
    by_cases h34 : c = 34
    · subst h34
      rw [qE_quo]
      refine ⟨fun n hn => ?_, fun hn => (by cases hn)⟩
      cases hn
      exact ⟨by simp [stepQ], by simp⟩
    · by_cases h92 : c = 92
      · subst h92
        have e2 : stepQ 1 (92 : UInt8) = 2 := by decide
        rw [e2]
        match r, h with
        | [], h => exact ⟨fun n hn => (by cases hn), fun _ => by simp [pcF]⟩
        | d :: r2, h =>
          simp only [List.length_cons] at h
          rw [qE_esc, pcF_cons, if_neg (fun q => absurd q.1 (by decide))]
          have e1 : stepQ 2 d = 1 := by unfold stepQ; rw [if_neg (by decide), if_neg (by decide)]
          rw [e1]
          obtain ⟨i1, i2⟩ := pc_quoted sep k r2 (acc ++ [92] ++ [d]) (by omega)
          refine ⟨fun n hn => ?_, fun hn => ?_⟩
          · obtain ⟨m, hm, rfl⟩ := Option.map_eq_some_iff.1 hn
            obtain ⟨j1, j2⟩ := i1 m hm
            refine ⟨?_, by simp only [List.length_cons]; omega⟩
            rw [j1]
            simp
          · rw [i2 (by simpa using hn)]; simp
      · rw [qE_any r h34 h92]
        have e1 : stepQ 1 c = 1 := by unfold stepQ; rw [if_neg (by decide), if_pos rfl, if_neg h34, if_neg h92]
        rw [e1]
        obtain ⟨i1, i2⟩ := pc_quoted sep k r (acc ++ [c]) (by omega)
        refine ⟨fun n hn => ?_, fun hn => ?_⟩
        · obtain ⟨m, hm, rfl⟩ := Option.map_eq_some_iff.1 hn
          obtain ⟨j1, j2⟩ := i1 m hm
          refine ⟨?_, by simp only [List.length_cons]; omega⟩
          rw [j1]; simp
        · rw [i2 (by simpa using hn)]; simp
/-- a text that is unescaped and a quote: the quote is the first that ends the quoted string -/
theorem qE_unesc : ∀ (k : Nat) (m u x : List UInt8), m.length ≤ k → unescL m = some u → qE (m ++ 34 :: x) = some (m.length + 1)
  | k, [], u, x, _, _ => qE_quo x
  | 0, c :: r, u, x, h, _ => by simp at h
  | k + 1, c :: r, u, x, h, hu => by
    simp only [List.length_cons] at h
    by_cases h34 : c = 34
    · subst h34; rw [unescL_q] at hu; cases hu
    · by_cases h92 : c = 92
      · subst h92
        match r, h, hu with
        | [], h, hu => rw [unescL_e] at hu; cases hu
        | d :: r2, h, hu =>
          simp only [List.length_cons] at h
          rw [unescL_b] at hu
          obtain ⟨v, hv, _⟩ := Option.map_eq_some_iff.1 hu
          rw [List.cons_append, List.cons_append, qE_esc, qE_unesc k r2 v x (by omega) hv]
          simp
      · rw [unescL_o c r h34 h92] at hu
        obtain ⟨v, hv, _⟩ := Option.map_eq_some_iff.1 hu
        rw [List.cons_append, qE_any _ h34 h92, qE_unesc k r v x (by omega) hv]
        simp
/-- what is unquoted is a quote, an inside and a quote -/
theorem unq_parts {l u : List UInt8} (h : unqL l = some u) : ∃ m, l = 34 :: (m ++ [34]) ∧ textL m = true ∧ unescL m = some u := by
  unfold unqL at h
  split at h
  · cases h
  · rename_i hc
    have h2 : ¬ l.length < 2 := fun e => hc (.inl e)
    have h0 : l.getD 0 0 = 34 := Classical.byContradiction fun e => hc (.inr (.inl e))
    have h1 : l.getD (l.length - 1) 0 = 34 := Classical.byContradiction fun e => hc (.inr (.inr e))
    refine ⟨(l.take (l.length - 1)).drop 1, ?_, ?_, ?_⟩
    · match l, h2, h0, h1 with
      | c :: r, h2, h0, h1 =>
        simp only [List.length_cons] at h2
        have hc0 : c = 34 := by simpa using h0
        subst hc0
        have hr : r ≠ [] := by intro e; subst e; simp at h2
        have e1 : (34 :: r).length - 1 = (r.length - 1) + 1 := by simp only [List.length_cons]; omega
        rw [e1] at h1 ⊢
        rw [List.take_succ_cons, List.drop_succ_cons, List.drop_zero]
        congr 1
        have hl : r[r.length - 1]'(by omega) = 34 := by
          rw [List.getD_eq_getElem?_getD, List.getElem?_cons_succ, List.getElem?_eq_getElem (by omega)] at h1
          simpa using h1
        have := List.dropLast_concat_getLast hr
        rw [List.getLast_eq_getElem, hl, List.dropLast_eq_take] at this
        exact this.symm
      | [], h2, _, _ => simp at h2
    · unfold unqIn at h; split at h
      · assumption
      · cases h
    · unfold unqIn at h; split at h
      · exact h
      · cases h
theorem qE_front : ∀ (k : Nat) (r x : List UInt8) (n : Nat), r.length ≤ k → qE r = some n → qE (r ++ x) = some n
  | k, [], x, n, _, h => by cases h
  | 0, c :: r, x, n, hl, _ => by simp at hl
  | k + 1, c :: r, x, n, hl, h => by
    simp only [List.length_cons] at hl
    by_cases h34 : c = 34
    · subst h34; rw [qE_quo] at h; rw [List.cons_append, qE_quo]; exact h
    · by_cases h92 : c = 92
      · subst h92
        match r, hl, h with
        | [], _, h => cases h
        | d :: r2, hl, h =>
          simp only [List.length_cons] at hl
          rw [qE_esc] at h
          obtain ⟨m, hm, rfl⟩ := Option.map_eq_some_iff.1 h
          rw [List.cons_append, List.cons_append, qE_esc, qE_front k r2 x m (by omega) hm]; rfl
      · rw [qE_any r h34 h92] at h
        obtain ⟨m, hm, rfl⟩ := Option.map_eq_some_iff.1 h
        rw [List.cons_append, qE_any _ h34 h92, qE_front k r x m (by omega) hm]; rfl
theorem qE_take : ∀ (k : Nat) (r : List UInt8) (n : Nat), r.length ≤ k → qE r = some n → qE (r.take n) = some n
  | k, [], n, _, h => by cases h
  | 0, c :: r, n, hl, _ => by simp at hl
  | k + 1, c :: r, n, hl, h => by
    simp only [List.length_cons] at hl
    by_cases h34 : c = 34
    · subst h34; rw [qE_quo] at h; cases h; rw [List.take_succ_cons, qE_quo]
    · by_cases h92 : c = 92
      · subst h92
        match r, hl, h with
        | [], _, h => cases h
        | d :: r2, hl, h =>
          simp only [List.length_cons] at hl
          rw [qE_esc] at h
          obtain ⟨m, hm, rfl⟩ := Option.map_eq_some_iff.1 h
          rw [List.take_succ_cons, List.take_succ_cons, qE_esc, qE_take k r2 m (by omega) hm]; rfl
      · rw [qE_any r h34 h92] at h
        obtain ⟨m, hm, rfl⟩ := Option.map_eq_some_iff.1 h
        rw [List.take_succ_cons, qE_any _ h34 h92, qE_take k r m (by omega) hm]; rfl
/-- what is unquoted ends with the quoted string's own last quote -/
theorem unq_end {r u : List UInt8} (h : unqL (34 :: r) = some u) : qE r = some r.length := by
  obtain ⟨m, e, _, hu⟩ := unq_parts h
  obtain rfl : r = m ++ [34] := (List.cons.inj e).2
  rw [qE_unesc m.length m u [] (Nat.le_refl _) hu]; simp
theorem unq_head5 {c : UInt8} {r : List UInt8} (h : c ≠ 34) : unqL (c :: r) = none := by
  cases hu : unqL (c :: r) with
  | none => rfl
  | some u => obtain ⟨m, e, _⟩ := unq_parts hu; exact absurd (List.cons.inj e).1 h
theorem pc_acc (sep : UInt8) : ∀ (l : List UInt8) (s : Nat) (acc : List UInt8), ∃ y, (pcF sep s l acc).1 = acc ++ y
  | [], s, acc => ⟨[], by simp [pcF]⟩
  | c :: r, s, acc => by
    rw [pcF_cons]
    split
    · exact ⟨[], by simp⟩
    · obtain ⟨y, hy⟩ := pc_acc sep r (stepQ s c) (acc ++ [c])
      exact ⟨c :: y, by rw [hy]; simp⟩
theorem plain_ne {c : UInt8} (h : plainC c = true) : c ≠ 34 ∧ c ≠ 32 ∧ c ≠ 44 ∧ c ≠ 40 ∧ c ≠ 41 ∧ c ≠ 9 := by
  unfold plainC at h
  simp only [Bool.and_eq_true, bne_iff_ne] at h
  obtain ⟨⟨⟨⟨⟨h1, h2⟩, h3⟩, h4⟩, h5⟩, h6⟩ := h
  exact ⟨h6, h1, h5, h3, h4, h2⟩
theorem pc_plain : ∀ (a r acc : List UInt8), (∀ c ∈ a, plainC c = true) → pcF 32 0 (a ++ r) acc = pcF 32 0 r (acc ++ a)
  | [], r, acc, _ => by simp
  | c :: a, r, acc, h => by
    have hc := plain_ne (h c (by simp))
    rw [List.cons_append, pcF_cons, if_neg (fun q => hc.2.1 q.2)]
    have e : stepQ 0 c = 0 := by unfold stepQ; rw [if_pos rfl, if_neg hc.1]
    rw [e, pc_plain a r _ (fun x hx => h x (by simp [hx]))]
    simp
theorem read_bad {c : UInt8} {r : List UInt8} (h : c ≠ 34) {d : UInt8} (hd : d ∈ c :: r) (hp : plainC d = false) : readV (c :: r) = none := by
  unfold readV
  have : (c :: r).all plainC = false := by rw [List.all_eq_false]; exact ⟨d, hd, by rw [hp]; simp⟩
  rw [this, unq_head5 h]; rfl
theorem read_quo (r : List UInt8) : readV (34 :: r) = unqL (34 :: r) := by
  unfold readV
  have : (34 :: r).all plainC = false := by rw [List.all_eq_false]; exact ⟨34, by simp, by decide⟩
  rw [this]; rfl
theorem cut_piece5 (l : List UInt8) : cutL 32 l = (pcL 32 l).1 :: moreL 32 (pcL 32 l).2.2 (pcL 32 l).2.1 := cutL_pc (by decide) l
theorem vals_grp : ∀ (k : Nat) (l : List UInt8) (acc : List (List UInt8)), l.length ≤ k → valsL l acc = grpF (cutL 32 l) acc
  | k, [], acc, _ => by rw [valsL_nil, show cutL 32 [] = [[]] from rfl, grpF_skip]; rfl
  | 0, c :: r, acc, h => by simp at h
  | k + 1, c :: r, acc, h => by
    simp only [List.length_cons] at h
    rw [cut_piece5]
    by_cases h32 : c = 32
    · subst h32
      have e : pcL 32 (32 :: r) = ([], r, true) := by unfold pcL; rw [pcF_cons, if_pos ⟨rfl, rfl⟩]
      rw [valsL_sp, e, vals_grp k r acc (by omega)]
      show _ = grpF ([] :: cutL 32 r) acc
      rw [grpF_skip]
    · by_cases h34 : c = 34
      · subst h34
        have e0 : pcL 32 (34 :: r) = pcF 32 1 r [34] := by
          unfold pcL; rw [pcF_cons, if_neg (fun q => absurd q.2 (by decide))]; rfl
        obtain ⟨q1, q2⟩ := pc_quoted 32 r.length r [34] (Nat.le_refl _)
        cases hq : qE r with
        | none =>
          have hw : wordE (34 :: r) = none := by rw [wordE_cons, if_pos rfl, hq]; rfl
          rw [valsL_none (by decide) hw, e0, q2 hq]
          have hu : unqL (34 :: r) = none := by
            cases hu : unqL (34 :: r) with
            | none => rfl
            | some u => rw [unq_end hu] at hq; cases hq
          exact (grpF_bad (by simp) (by show readV (34 :: r) = none; rw [read_quo, hu])).symm
        | some n =>
          obtain ⟨j1, j2⟩ := q1 n hq
          have hdl : (34 :: r).drop (n + 1) = r.drop n := rfl
          have hqt := qE_take r.length r n (Nat.le_refl _) hq
          cases hd : r.drop n with
          | nil =>
            have hn : n = r.length := by have := congrArg List.length hd; rw [List.length_drop] at this; simp at this; omega
            have htk : r.take n = r := List.take_of_length_le (by omega)
            rw [e0, j1, hd, htk]
            show _ = grpF [34 :: r] acc
            cases hu : unqL (34 :: r) with
            | none =>
              have hw : wordE (34 :: r) = none := by rw [wordE_cons, if_pos rfl, hq]; simp [htk, hu]
              rw [valsL_none (by decide) hw, grpF_bad (by simp) (by rw [read_quo, hu])]
            | some u =>
              have hw : wordE (34 :: r) = some (u, n + 1) := by rw [wordE_cons, if_pos rfl, hq]; simp [htk, hu]
              rw [valsL_end (by decide) hw (by rw [hdl, hd]), hdl, hd, valsL_nil, grpF_more (by simp) (by rw [read_quo, hu])]; rfl
          | cons d r2 =>
            have hlen : (r.drop n).length = r.length - n := List.length_drop ..
            rw [hd, List.length_cons] at hlen
            rw [e0, j1, hd]
            by_cases h3 : d = 32
            · subst h3
              rw [pcF_cons, if_pos ⟨rfl, rfl⟩]
              show _ = grpF ((34 :: r.take n) :: cutL 32 r2) acc
              cases hu : unqL (34 :: r.take n) with
              | none =>
                have hw : wordE (34 :: r) = none := by rw [wordE_cons, if_pos rfl, hq]; simp [hu]
                rw [valsL_none (by decide) hw, grpF_bad (by simp) (by rw [read_quo, hu])]
              | some u =>
                have hw : wordE (34 :: r) = some (u, n + 1) := by rw [wordE_cons, if_pos rfl, hq]; simp [hu]
                rw [valsL_word (by decide) hw (by rw [hdl, hd]), hdl, hd, valsL_sp, grpF_more (by simp) (by rw [read_quo, hu]), vals_grp k r2 _ (by omega)]
            · rw [pcF_cons, if_neg (fun q => h3 q.2)]
              obtain ⟨y, hy⟩ := pc_acc 32 r2 (stepQ 0 d) ([34] ++ r.take n ++ [d])
              have hv : valsL (34 :: r) acc = none := by
                cases hu : unqL (34 :: r.take n) with
                | none =>
                  have hw : wordE (34 :: r) = none := by rw [wordE_cons, if_pos rfl, hq]; simp [hu]
                  rw [valsL_none (by decide) hw]
                | some u =>
                  have hw : wordE (34 :: r) = some (u, n + 1) := by rw [wordE_cons, if_pos rfl, hq]; simp [hu]
                  rw [valsL_bad (by decide) hw (by rw [hdl, hd]) h3]
              have he : [34] ++ r.take n ++ [d] ++ y = 34 :: (r.take n ++ d :: y) := by simp
              have hu : unqL (34 :: (r.take n ++ d :: y)) = none := by
                cases hu : unqL (34 :: (r.take n ++ d :: y)) with
                | none => rfl
                | some u =>
                  have h1 := unq_end hu
                  rw [qE_front _ _ (d :: y) n (Nat.le_refl _) hqt] at h1
                  have h2 := Option.some.inj h1
                  rw [List.length_append, List.length_take, List.length_cons] at h2
                  omega
              rw [hv, hy, he, grpF_bad (by simp) (by rw [read_quo, hu])]
      · cases hp : plainC c with
        | false =>
          have hw : wordE (c :: r) = none := by rw [wordE_cons, if_neg h34, if_pos hp]
          have e0 : pcL 32 (c :: r) = pcF 32 0 r [c] := by
            unfold pcL; rw [pcF_cons, if_neg (fun q => h32 q.2)]
            have : stepQ 0 c = 0 := by unfold stepQ; rw [if_pos rfl, if_neg h34]
            rw [this]; rfl
          obtain ⟨y, hy⟩ := pc_acc 32 r 0 [c]
          rw [valsL_none h32 hw, e0, hy]
          exact (grpF_bad (by simp) (read_bad h34 (by simp) hp)).symm
        | true =>
          obtain ⟨a, ha⟩ : ∃ a, (c :: r).takeWhile plainC = a := ⟨_, rfl⟩
          have hw : wordE (c :: r) = some (a, a.length) := by rw [wordE_cons, if_neg h34, if_neg (by rw [hp]; simp), ha]
          have hsp : a ++ (c :: r).drop a.length = c :: r := by
            have := List.takeWhile_append_dropWhile (p := plainC) (l := c :: r)
            rw [ha] at this
            have h2 : (c :: r).drop a.length = (c :: r).dropWhile plainC := by
              conv => lhs; rw [← this]
              rw [List.drop_left]
            rw [h2]; exact this
          have hall : ∀ x ∈ a, plainC x = true := fun x hx => by rw [← ha] at hx; exact (List.all_eq_true.1 List.all_takeWhile) x hx
          have ha0 : a = c :: r.takeWhile plainC := by rw [← ha, List.takeWhile_cons_of_pos hp]
          have hane : a ≠ [] := by rw [ha0]; simp
          have hra : readV a = some a := by unfold readV; rw [if_pos (List.all_eq_true.2 hall)]
          have hpc : pcL 32 (c :: r) = pcF 32 0 ((c :: r).drop a.length) a := by
            unfold pcL
            conv => lhs; rw [← hsp]
            rw [pc_plain a _ [] hall]; rfl
          rw [hpc]
          cases hd : (c :: r).drop a.length with
          | nil =>
            rw [valsL_end h32 hw hd, hd, valsL_nil]
            show _ = grpF [a] acc
            rw [grpF_more hane hra]; rfl
          | cons d r2 =>
            have hlen : ((c :: r).drop a.length).length = (c :: r).length - a.length := List.length_drop ..
            rw [hd, List.length_cons, List.length_cons] at hlen
            have hal : 1 ≤ a.length := by rw [ha0]; simp
            by_cases h3 : d = 32
            · subst h3
              rw [valsL_word h32 hw hd, hd, valsL_sp, pcF_cons, if_pos ⟨rfl, rfl⟩]
              show _ = grpF (a :: cutL 32 r2) acc
              rw [grpF_more hane hra, vals_grp k r2 _ (by omega)]
            · have hdp : plainC d = false := by
                have h5 : (c :: r).dropWhile plainC = d :: r2 := by
                  have := List.takeWhile_append_dropWhile (p := plainC) (l := c :: r)
                  rw [ha] at this
                  have h2 : (c :: r).drop a.length = (c :: r).dropWhile plainC := by
                    conv => lhs; rw [← this]
                    rw [List.drop_left]
                  rw [← h2]; exact hd
                have := List.head?_dropWhile_not plainC (c :: r)
                rw [h5] at this
                simpa using this
              rw [valsL_bad h32 hw hd h3, pcF_cons, if_neg (fun q => h3 q.2)]
              obtain ⟨y, hy⟩ := pc_acc 32 r2 (stepQ 0 d) (a ++ [d])
              rw [hy]
              have he : a ++ [d] ++ y = c :: (r.takeWhile plainC ++ d :: y) := by rw [ha0]; simp
              rw [he]
              exact (grpF_bad (by simp) (read_bad h34 (by simp) hdp)).symm
end
end Go.Proofs.YtcnohcbhnldglaaGreat.Asc
