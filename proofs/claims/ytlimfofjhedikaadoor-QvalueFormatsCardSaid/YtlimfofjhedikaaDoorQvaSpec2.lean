/- Plain functions: a quality value cut at its point; the thousandths behind the point. No program is named here. -/
import Derived.Test.YtlimfofjhedikaaDoorQvaSpec
set_option linter.unusedVariables false
set_option linter.unusedSimpArgs false
set_option maxRecDepth 100000
namespace Go.Proofs.YtlimfofjhedikaaDoor.Asc

/-- the thousandths that at most three digits say -/
def fracO (ds : List UInt8) : Option Int := if 3 < ds.length then none else qvD 0 100 ds
def wt3 (k : Nat) : Int := if k = 0 then 100 else if k = 1 then 10 else if k = 2 then 1 else 0
theorem wt3_next (k : Nat) (h : k < 3) : wt3 k / 10 = wt3 (k + 1) := by
  match k, h with
  | 0, _ => rfl
  | 1, _ => rfl
  | 2, _ => rfl
theorem qvD_shift : ∀ (ds : List UInt8) (q x w : Int), qvD (q + x) w ds = (qvD q w ds).map (· + x)
  | [], q, x, w => rfl
  | c :: r, q, x, w => by
    rw [qvD_cons, qvD_cons]
    by_cases h : digitI c.toNat = true
    · rw [if_pos h, if_pos h, ← qvD_shift r, show q + x + ((c.toNat : Int) - 48) * w = q + ((c.toNat : Int) - 48) * w + x from by omega]
    · rw [if_neg h, if_neg h]; rfl
theorem dig_bd {c : UInt8} (h : digitI c.toNat = true) : 48 ≤ (c.toNat : Int) ∧ (c.toNat : Int) ≤ 57 := by simpa [digitI] using h
theorem frac_bd {ds : List UInt8} {t : Int} (h : fracO ds = some t) : 0 ≤ t ∧ t ≤ 999 := by
  unfold fracO at h
  split at h
  · cases h
  · rename_i hl
    match ds, hl with
    | [], _ => cases h; omega
    | [a], _ =>
      rw [qvD_cons] at h
      split at h
      · rename_i ha; have := dig_bd ha; cases h; omega
      · cases h
    | [a, b], _ =>
      rw [qvD_cons] at h
      split at h
      · rename_i ha
        rw [qvD_cons] at h
        split at h
        · rename_i hb; have := dig_bd ha; have := dig_bd hb; cases h; omega
        · cases h
      · cases h
    | [a, b, c], _ =>
      rw [qvD_cons] at h
      split at h
      · rename_i ha
        rw [qvD_cons] at h
        split at h
        · rename_i hb
          rw [qvD_cons] at h
          split at h
          · rename_i hc; have := dig_bd ha; have := dig_bd hb; have := dig_bd hc; cases h; omega
          · cases h
        · cases h
      · cases h
    | _ :: _ :: _ :: _ :: _, hl => exact absurd (by simp only [List.length_cons]; omega) hl
/-- what is said by the digit ahead of the point and the thousandths behind it -/
def selQ (W : List UInt8) : Option Int → Option Int
  | none => none
  | some t => if W = [48] then some t else if W = [49] ∧ t = 0 then some 1000 else none
/-- a text cut at a point in its second place -/
def cutQ : List UInt8 → List UInt8 × List UInt8
  | a :: p :: ds => if p = 46 then ([a], ds) else (a :: p :: ds, [])
  | l => (l, [])
theorem sel_cut (l : List UInt8) : selQ (cutQ l).1 (fracO (cutQ l).2) = qvL l := by
  match l with
  | [] => rfl
  | [a] =>
    show selQ [a] (some 0) = (if 5 < 0 + 1 ∨ ¬ (a = 48 ∨ a = 49) then none else qvEnd (some (((a.toNat : Int) - 48) * 1000)))
    unfold selQ
    by_cases h8 : a = 48
    · subst h8; rfl
    · by_cases h9 : a = 49
      · subst h9; rfl
      · simp [h8, h9]
  | a :: p :: ds =>
    rw [qv_more]
    show selQ (if p = 46 then ([a], ds) else (a :: p :: ds, [])).1 (fracO (if p = 46 then ([a], ds) else (a :: p :: ds, [])).2) = _
    by_cases hp : p = 46
    · rw [if_pos hp]
      by_cases hl : ds.length ≤ 3
      · by_cases h8 : a = 48
        · rw [if_pos ⟨hl, .inl h8, hp⟩]
          subst h8
          have e : fracO ds = qvD 0 100 ds := by unfold fracO; rw [if_neg (by omega)]
          show selQ [48] (fracO ds) = qvEnd (qvD 0 100 ds)
          rw [← e]
          cases hf : fracO ds with
          | none => rfl
          | some t => have := frac_bd hf; show (if ([48] : List UInt8) = [48] then some t else if ([48] : List UInt8) = [49] ∧ t = 0 then some 1000 else none) = (if 1000 < t then none else some t); rw [if_pos rfl, if_neg (by omega)]
        · by_cases h9 : a = 49
          · rw [if_pos ⟨hl, .inr h9, hp⟩]
            subst h9
            have e : qvD (0 + 1000) 100 ds = (fracO ds).map (· + 1000) := by unfold fracO; rw [if_neg (by omega), qvD_shift]
            show selQ [49] (fracO ds) = qvEnd (qvD (0 + 1000) 100 ds)
            rw [e]
            cases hf : fracO ds with
            | none => rfl
            | some t =>
              have := frac_bd hf
              show (if ([49] : List UInt8) = [48] then some t else if ([49] : List UInt8) = [49] ∧ t = 0 then some 1000 else none) = (if 1000 < t + 1000 then none else some (t + 1000))
              rw [if_neg (by decide)]
              by_cases h0 : t = 0
              · rw [if_pos ⟨rfl, h0⟩, if_neg (by omega), h0]; rfl
              · rw [if_neg (fun q => h0 q.2), if_pos (by omega)]
          · rw [if_neg (fun q => q.2.1.elim h8 h9)]
            show selQ [a] (fracO ds) = none
            cases fracO ds with
            | none => rfl
            | some t => show (if [a] = [48] then some t else if [a] = [49] ∧ t = 0 then some 1000 else none) = none; simp [h8, h9]
      · rw [if_neg (fun q => hl q.1)]
        have e : fracO ds = none := by unfold fracO; rw [if_pos (by omega)]
        show selQ [a] (fracO ds) = none
        rw [e]; rfl
    · rw [if_neg hp, if_neg (fun q => hp q.2.2)]
      show selQ (a :: p :: ds) (some 0) = none
      unfold selQ; simp
/-- the digits of a number below 1000, the last ones left out where they are zeros -/
theorem dec_dig (n : Nat) (h : n < 10) : decL (n : Int) = [digC n] := by
  have key : ∀ n : Fin 10, decL (n.1 : Int) = [digC n.1] := by decide +kernel
  exact key ⟨n, h⟩
theorem digC_zero (n : Nat) (h : n < 10) : digC n = 48 ↔ n = 0 := by
  have key : ∀ n : Fin 10, digC n.1 = 48 ↔ n.1 = 0 := by decide +kernel
  exact key ⟨n, h⟩

end Go.Proofs.YtlimfofjhedikaaDoor.Asc
