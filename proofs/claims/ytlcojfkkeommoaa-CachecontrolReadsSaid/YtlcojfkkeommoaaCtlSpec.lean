/- Plain functions of layer 22: directives, their arguments, the control. No program is named here. -/
import Derived.Test.YtlcojfkkeommoaaParSpec2
import Derived.Test.YtlcojfkkeommoaaAscSpec3
import Derived.Test.YtlcojfkkeommoaaLisSpec4
set_option linter.unusedVariables false
set_option linter.unusedSimpArgs false
set_option maxRecDepth 100000
namespace Go.Proofs.Ytlcojfkkeommoaa.Asc

def tkB (c : UInt8) : Bool := tokI c.toNat
/-- a member's name and what follows it -/
def namD (m : List UInt8) : List UInt8 := m.takeWhile tkB
def rstD (m : List UInt8) : List UInt8 := m.dropWhile tkB
/-- is it a directive of this name? -/
def isD (n m : List UInt8) : Bool := !(namD m).isEmpty && foldL (namD m) n
/-- what follows the first directive of a name -/
def dirD (n : List UInt8) (M : List (List UInt8)) : Option (List UInt8) := (M.find? (isD n)).map rstD
def argD : List UInt8 → Option (List UInt8)
  | [] => none
  | c :: a => if c = 61 then (if tokL a = true then some a else unqL a) else none
def numD (bare bad : Int) (r : List UInt8) : Int := if r = [] then bare else match argD r with | none => bad | some a => (numL a).getD bad
def secO (bare bad : Int) : Option (List UInt8) → Int
  | none => -1
  | some r => numD bare bad r
def secD (n : List UInt8) (bare bad : Int) (M : List (List UInt8)) : Int := secO bare bad (dirD n M)
/-- what a control holds -/
structure CT where
  ns : Bool
  nc : Bool
  mr : Bool
  pr : Bool
  pv : Bool
  pb : Bool
  oc : Bool
  ma : Int
  sm : Int
  mf : Int
  ms : Int
  deriving DecidableEq
def nsN : List UInt8 := [110, 111, 45, 115, 116, 111, 114, 101]
def ncN : List UInt8 := [110, 111, 45, 99, 97, 99, 104, 101]
def mrN : List UInt8 := [109, 117, 115, 116, 45, 114, 101, 118, 97, 108, 105, 100, 97, 116, 101]
def prN : List UInt8 := [112, 114, 111, 120, 121, 45, 114, 101, 118, 97, 108, 105, 100, 97, 116, 101]
def pvN : List UInt8 := [112, 114, 105, 118, 97, 116, 101]
def pbN : List UInt8 := [112, 117, 98, 108, 105, 99]
def ocN : List UInt8 := [111, 110, 108, 121, 45, 105, 102, 45, 99, 97, 99, 104, 101, 100]
def maN : List UInt8 := [109, 97, 120, 45, 97, 103, 101]
def smN : List UInt8 := [115, 45, 109, 97, 120, 97, 103, 101]
def mfN : List UInt8 := [109, 105, 110, 45, 102, 114, 101, 115, 104]
def msN : List UInt8 := [109, 97, 120, 45, 115, 116, 97, 108, 101]
def ccN : ByteArray := ⟨#[67, 97, 99, 104, 101, 45, 67, 111, 110, 116, 114, 111, 108]⟩
def pgN : ByteArray := ⟨#[80, 114, 97, 103, 109, 97]⟩
/-- the control of members, without what their number asks -/
def ctl0 (M : List (List UInt8)) : CT :=
  { ns := (dirD nsN M).isSome, nc := (dirD ncN M).isSome, mr := (dirD mrN M).isSome, pr := (dirD prN M).isSome, pv := (dirD pvN M).isSome, pb := (dirD pbN M).isSome, oc := (dirD ocN M).isSome,
    ma := secD maN 0 0 M, sm := secD smN 0 0 M, mf := secD mfN 2147483647 2147483647 M, ms := secD msN 2147483647 0 M }
/-- 22.2 -/
def respC (M : List (List UInt8)) : CT := { ctl0 M with ns := (dirD nsN M).isSome || decide (64 ≤ M.length) }
/-- 22.3 -/
def pragC (P : List (List UInt8)) : Bool := P.any fun m => foldL m ncN
def reqC (cc : Bool) (M P : List (List UInt8)) : CT := { respC M with nc := (dirD ncN M).isSome || (!cc && pragC P) }

theorem argD_num {r a : List UInt8} (h : argD r = some a) (bare bad : Int) (hr : r ≠ []) : numD bare bad r = (numL a).getD bad := by
  unfold numD; rw [if_neg hr, h]
theorem numF_le (l : List UInt8) (h : allI digitI l = true) : 0 ≤ numF l := by
  rw [numF_eq l h]
  have : ∀ (l : List UInt8), allI digitI l = true → ∀ v : Int, 0 ≤ v → 0 ≤ valF v l := by
    intro l
    induction l with
    | nil => intro _ v hv; exact hv
    | cons c l ih =>
      intro h v hv
      have hc : digitI c.toNat = true ∧ allI digitI l = true := by simpa [allI] using h
      have hd := digitI_bd hc.1
      show 0 ≤ valF (v * 10 + ((c.toNat : Int) - 48)) l
      exact ih hc.2 _ (by omega)
  have := this l h 0 (Int.le_refl _)
  omega
theorem numL_le {l : List UInt8} {v : Int} (h : numL l = some v) : 0 ≤ v := by
  unfold numL at h
  split at h
  · rename_i hd; cases h; exact numF_le l hd.1
  · cases h
theorem numD_le {bare bad : Int} (h1 : 0 ≤ bare) (h2 : 0 ≤ bad) (r : List UInt8) : 0 ≤ numD bare bad r := by
  unfold numD
  split
  · exact h1
  · split
    · exact h2
    · rename_i a _
      cases hn : numL a with
      | none => exact h2
      | some v => exact numL_le hn
theorem secO_is {bare bad : Int} (h1 : 0 ≤ bare) (h2 : 0 ≤ bad) (o : Option (List UInt8)) : (secO bare bad o = -1) ↔ o = none := by
  cases o with
  | none => simp [secO]
  | some r => have := numD_le h1 h2 r; simp [secO]; omega
theorem dirD_snoc (n : List UInt8) (M : List (List UInt8)) (m : List UInt8) : dirD n (M ++ [m]) = (dirD n M).or (if isD n m = true then some (rstD m) else none) := by
  unfold dirD
  rw [List.find?_append]
  cases h : M.find? (isD n) with
  | some x => simp
  | none =>
    simp only [Option.none_or, Option.map_none]
    cases h2 : isD n m with
    | true => simp [List.find?, h2]
    | false => simp [List.find?, h2]
theorem some_snoc (n : List UInt8) (M : List (List UInt8)) (m : List UInt8) : (dirD n (M ++ [m])).isSome = ((dirD n M).isSome || isD n m) := by
  rw [dirD_snoc]
  cases dirD n M with
  | some x => simp
  | none => cases isD n m <;> simp
theorem sec_snoc (n : List UInt8) {bare bad : Int} (h1 : 0 ≤ bare) (h2 : 0 ≤ bad) (M : List (List UInt8)) (m : List UInt8) :
    secD n bare bad (M ++ [m]) = if isD n m = true ∧ secD n bare bad M = -1 then numD bare bad (rstD m) else secD n bare bad M := by
  have hq := secO_is h1 h2 (dirD n M)
  unfold secD
  rw [dirD_snoc]
  cases h : dirD n M with
  | some x =>
    rw [h] at hq
    have hq2 : secO bare bad (some x) ≠ -1 := fun e => absurd (hq.1 e) (by simp)
    simp only [Option.some_or]
    rw [if_neg (fun q => hq2 q.2)]
  | none =>
    cases h3 : isD n m with
    | true => simp [secO]
    | false => simp [secO]
/-- a name in lower case: equality of the member's name in lower case -/
theorem isD_low {n m : List UInt8} (h : lowL n = n) (hn : n ≠ []) : isD n m = decide (lowL (namD m) = n) := by
  unfold isD foldL
  rw [h]
  cases hm : namD m with
  | nil =>
    have : ¬ (lowL [] = n) := fun e => hn e.symm
    rw [decide_eq_false this]; simp
  | cons c r => simp
/-- one member more -/
def stepC (c : CT) (x r : List UInt8) : CT :=
  { ns := c.ns || decide (x = nsN), nc := c.nc || decide (x = ncN), mr := c.mr || decide (x = mrN), pr := c.pr || decide (x = prN), pv := c.pv || decide (x = pvN), pb := c.pb || decide (x = pbN), oc := c.oc || decide (x = ocN),
    ma := if x = maN ∧ c.ma = -1 then numD 0 0 r else c.ma, sm := if x = smN ∧ c.sm = -1 then numD 0 0 r else c.sm,
    mf := if x = mfN ∧ c.mf = -1 then numD 2147483647 2147483647 r else c.mf, ms := if x = msN ∧ c.ms = -1 then numD 2147483647 0 r else c.ms }
theorem ctl0_snoc (M : List (List UInt8)) (m : List UInt8) : ctl0 (M ++ [m]) = stepC (ctl0 M) (lowL (namD m)) (rstD m) := by
  have e1 := isD_low (n := nsN) (m := m) (by decide) (by decide)
  have e2 := isD_low (n := ncN) (m := m) (by decide) (by decide)
  have e3 := isD_low (n := mrN) (m := m) (by decide) (by decide)
  have e4 := isD_low (n := prN) (m := m) (by decide) (by decide)
  have e5 := isD_low (n := pvN) (m := m) (by decide) (by decide)
  have e6 := isD_low (n := pbN) (m := m) (by decide) (by decide)
  have e7 := isD_low (n := ocN) (m := m) (by decide) (by decide)
  have e8 := isD_low (n := maN) (m := m) (by decide) (by decide)
  have e9 := isD_low (n := smN) (m := m) (by decide) (by decide)
  have e10 := isD_low (n := mfN) (m := m) (by decide) (by decide)
  have e11 := isD_low (n := msN) (m := m) (by decide) (by decide)
  unfold ctl0 stepC
  rw [some_snoc, some_snoc, some_snoc, some_snoc, some_snoc, some_snoc, some_snoc, sec_snoc _ (by decide) (by decide), sec_snoc _ (by decide) (by decide), sec_snoc _ (by decide) (by decide), sec_snoc _ (by decide) (by decide)]
  rw [e1, e2, e3, e4, e5, e6, e7, e8, e9, e10, e11]
  simp only [decide_eq_true_eq]
theorem ctl0_nil : ctl0 [] = ⟨false, false, false, false, false, false, false, -1, -1, -1, -1⟩ := rfl
theorem ctl0_more {M : List (List UInt8)} {k : Nat} (h : k < M.length) : ctl0 (M.take (k + 1)) = stepC (ctl0 (M.take k)) (lowL (namD M[k])) (rstD M[k]) := by
  rw [List.take_succ_eq_append_getElem h, ctl0_snoc]
theorem prag_more {P : List (List UInt8)} {k : Nat} (h : k < P.length) : pragC (P.take (k + 1)) = (pragC (P.take k) || foldL P[k] ncN) := by
  rw [List.take_succ_eq_append_getElem h]; unfold pragC; simp only [List.any_append, List.any_cons, List.any_nil, Bool.or_false]
/-- the first of a name, found member by member -/
theorem dir_more {n : List UInt8} {M : List (List UInt8)} {k : Nat} (h : k < M.length) (h0 : dirD n (M.take k) = none) (h1 : isD n M[k] = false) : dirD n (M.take (k + 1)) = none := by
  rw [List.take_succ_eq_append_getElem h, dirD_snoc, h0, h1]; rfl
theorem find_take {α : Type} {p : α → Bool} {M : List α} {k : Nat} (h : k < M.length) (h0 : (M.take k).find? p = none) (h1 : p M[k] = true) : M.find? p = some M[k] := by
  have e : M = M.take k ++ M[k] :: M.drop (k + 1) := by rw [← List.drop_eq_getElem_cons h, List.take_append_drop]
  conv => lhs; rw [e]
  rw [List.find?_append, h0, List.find?_cons_of_pos h1]; rfl
theorem dir_hit {n : List UInt8} {M : List (List UInt8)} {k : Nat} (h : k < M.length) (h0 : dirD n (M.take k) = none) (h1 : isD n M[k] = true) : dirD n M = some (rstD M[k]) := by
  unfold dirD at h0 ⊢
  rw [find_take h (by simpa using h0) h1]; rfl
/-- names byte by byte -/
theorem nam_more {l : List UInt8} {k : Nat} (h : k < l.length) (hp : tkB l[k] = true) (ha : l.take k = (l.take k).takeWhile tkB) : l.take (k + 1) = (l.take (k + 1)).takeWhile tkB := by
  rw [List.take_succ_eq_append_getElem h, List.takeWhile_append]
  rw [← ha]; simp [hp]
theorem nam_cut {l : List UInt8} {k : Nat} (hk : k ≤ l.length) (ha : allI tokI (l.take k) = true) (hb : ∀ h : k < l.length, tokI l[k].toNat = false) : namD l = l.take k ∧ rstD l = l.drop k := by
  have ha2 : ∀ c ∈ l.take k, tkB c = true := fun c hc => List.all_eq_true.mp ha c hc
  have e := List.take_append_drop k l
  have hd : (l.drop k).takeWhile tkB = [] ∧ (l.drop k).dropWhile tkB = l.drop k := by
    by_cases hlt : k < l.length
    · rw [List.drop_eq_getElem_cons hlt]
      have : ¬ tkB l[k] = true := by unfold tkB; rw [hb hlt]; simp
      rw [List.takeWhile_cons_of_neg this, List.dropWhile_cons_of_neg this]
      exact ⟨rfl, rfl⟩
    · rw [List.drop_eq_nil_of_le (by omega)]; exact ⟨rfl, rfl⟩
  constructor
  · unfold namD
    conv => lhs; rw [← e]
    rw [List.takeWhile_append_of_pos ha2, hd.1, List.append_nil]
  · unfold rstD
    conv => lhs; rw [← e]
    rw [List.dropWhile_append_of_pos ha2, hd.2]
theorem rst_len (m : List UInt8) : (rstD m).length ≤ m.length := (List.dropWhile_sublist _).length_le
theorem nam_len (m : List UInt8) : (namD m).length ≤ m.length := (List.takeWhile_sublist _).length_le
/-- what is quoted is no longer than its text -/
theorem unesc_len22 : ∀ (n : Nat) (l t : List UInt8), l.length ≤ n → unescL l = some t → t.length ≤ l.length
  | _, [], t, _, h => by
    have : t = [] := by simpa [unescL] using h.symm
    subst this; simp
  | 0, c :: r, t, hl, _ => by simp at hl
  | n + 1, c :: r, t, hl, h => by
    simp only [List.length_cons] at hl
    by_cases h34 : c = 34
    · subst h34; rw [unescL_q] at h; cases h
    · by_cases h92 : c = 92
      · subst h92
        match r, hl, h with
        | [], _, h => rw [unescL_e] at h; cases h
        | d :: r, hl, h =>
          rw [unescL_b] at h
          obtain ⟨u, hu, rfl⟩ := Option.map_eq_some_iff.1 h
          simp only [List.length_cons] at hl
          have := unesc_len22 n r u (by omega) hu
          simp only [List.length_cons]; omega
      · rw [unescL_o c r h34 h92] at h
        obtain ⟨u, hu, rfl⟩ := Option.map_eq_some_iff.1 h
        have := unesc_len22 n r u (by omega) hu
        simp only [List.length_cons]; omega
theorem unqL_len22 {l t : List UInt8} (h : unqL l = some t) : t.length ≤ l.length := by
  unfold unqL at h
  split at h
  · cases h
  · unfold unqIn at h
    split at h
    · have i1 := unesc_len22 _ _ t (Nat.le_refl _) h
      simp only [List.length_drop, List.length_take] at i1
      omega
    · cases h

end Go.Proofs.Ytlcojfkkeommoaa.Asc
