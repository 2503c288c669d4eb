/- Plain functions: quality values, read and written. No program is named here. -/
import Derived.Test.YtlimfofjhedikaaDoorStaSpec
import Derived.Test.YtlimfofjhedikaaDoorAscSpec3
set_option linter.unusedVariables false
set_option linter.unusedSimpArgs false
set_option maxRecDepth 100000
namespace Go.Proofs.YtlimfofjhedikaaDoor.Asc

/-- digits behind the point, by their weights -/
def qvD : Int → Int → List UInt8 → Option Int
  | q, _, [] => some q
  | q, w, c :: r => if digitI c.toNat = true then qvD (q + ((c.toNat : Int) - 48) * w) (w / 10) r else none
def qvEnd (q : Option Int) : Option Int := match q with
  | some v => if 1000 < v then none else some v
  | none => none
def qvL : List UInt8 → Option Int
  | [] => none
  | a :: r =>
    if 5 < r.length + 1 ∨ ¬ (a = 48 ∨ a = 49) then none
    else match r with
      | [] => qvEnd (some (((a.toNat : Int) - 48) * 1000))
      | p :: ds => if p ≠ 46 then none else qvEnd (qvD (((a.toNat : Int) - 48) * 1000) 100 ds)
def qvV (o : Option Int) : Int × Bool := match o with
  | some v => (v, true)
  | none => (0, false)
/-- three digits, without the zeros at the end -/
def digC (n : Nat) : UInt8 := UInt8.ofNat (48 + n)
def threeL (n : Nat) : List UInt8 := [digC (n / 100 % 10), digC (n / 10 % 10), digC (n % 10)]
def stripF : Nat → List UInt8 → List UInt8
  | 0, l => l
  | f + 1, l => if l.getLast? = some 48 then stripF f l.dropLast else l
def fmtQ (q : Int) : List UInt8 :=
  if q < 0 ∨ 1000 < q then [] else if q = 0 then [48] else if q = 1000 then [49] else 48 :: 46 :: stripF 3 (threeL q.toNat)
theorem qv_read (q : Int) (h0 : 0 ≤ q) (h1 : q ≤ 1000) : qvL (fmtQ q) = some q := by
  have key : ∀ n : Fin 1001, qvL (fmtQ (n.1 : Int)) = some (n.1 : Int) := by decide +kernel
  have := key ⟨q.toNat, by omega⟩
  simp only at this
  rwa [show ((q.toNat : Nat) : Int) = q from by omega] at this
theorem qv_none (q : Int) (h : q < 0 ∨ 1000 < q) : fmtQ q = [] := by unfold fmtQ; rw [if_pos h]
/-- the digits of 1000 + q -/
theorem dec_four (q : Int) (h0 : 0 ≤ q) (h1 : q < 1000) : decL (1000 + q) = 49 :: threeL q.toNat := by
  have key : ∀ n : Fin 1000, decL (1000 + (n.1 : Int)) = 49 :: threeL n.1 := by decide +kernel
  have := key ⟨q.toNat, by omega⟩
  simp only at this
  rwa [show ((q.toNat : Nat) : Int) = q from by omega] at this
theorem qv_more (a p : UInt8) (ds : List UInt8) : qvL (a :: p :: ds) = if ds.length ≤ 3 ∧ (a = 48 ∨ a = 49) ∧ p = 46 then qvEnd (qvD (((a.toNat : Int) - 48) * 1000) 100 ds) else none := by
  show (if 5 < (p :: ds).length + 1 ∨ ¬ (a = 48 ∨ a = 49) then none else if p ≠ 46 then none else qvEnd (qvD (((a.toNat : Int) - 48) * 1000) 100 ds)) = _
  rw [List.length_cons]
  by_cases h1 : ds.length ≤ 3
  · by_cases h2 : a = 48 ∨ a = 49
    · have hn : ¬ (5 < ds.length + 1 + 1 ∨ ¬ (a = 48 ∨ a = 49)) := fun h => h.elim (fun q => by omega) (fun q => q h2)
      rw [if_neg hn]
      by_cases h3 : p = 46
      · rw [if_neg (fun q => q h3), if_pos ⟨h1, h2, h3⟩]
      · rw [if_pos h3, if_neg (fun q => h3 q.2.2)]
    · rw [if_pos (Or.inr h2), if_neg (fun q => h2 q.2.1)]
  · rw [if_pos (Or.inl (by omega)), if_neg (fun q => h1 q.1)]
theorem qvD_zero : ∀ (ds : List UInt8) (q w : Int), qvD q w (ds ++ [48]) = qvD q w ds
  | [], q, w => by
    show (if digitI (48 : UInt8).toNat = true then qvD (q + (((48 : UInt8).toNat : Int) - 48) * w) (w / 10) [] else none) = some q
    rw [if_pos (by decide), show (((48 : UInt8).toNat : Int) - 48) = 0 from by decide, Int.zero_mul, Int.add_zero]; rfl
  | c :: r, q, w => by
    show (if digitI c.toNat = true then qvD (q + ((c.toNat : Int) - 48) * w) (w / 10) (r ++ [48]) else none) = (if digitI c.toNat = true then qvD (q + ((c.toNat : Int) - 48) * w) (w / 10) r else none)
    rw [qvD_zero r]
theorem zero_last (l : List UInt8) (h3 : 3 ≤ l.length) (h4 : l.length ≤ 4) : qvL (l ++ [48]) = qvL l := by
  match l, h3, h4 with
  | a :: p :: ds, h3, h4 =>
    simp only [List.length_cons] at h3 h4
    rw [List.cons_append, List.cons_append, qv_more, qv_more, qvD_zero, List.length_append]
    have e : (ds.length + [(48 : UInt8)].length ≤ 3) ↔ (ds.length ≤ 3) := by simp only [List.length_cons, List.length_nil]; omega
    simp only [e]
/-- bounds of what has been read -/
theorem qvD_cons (q w : Int) (c : UInt8) (r : List UInt8) : qvD q w (c :: r) = if digitI c.toNat = true then qvD (q + ((c.toNat : Int) - 48) * w) (w / 10) r else none := rfl

end Go.Proofs.YtlimfofjhedikaaDoor.Asc
