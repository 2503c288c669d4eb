/- Plain facts of entity tags: a text read (parE), a tag written (fmtL), a list of them (parAll), their lists over lines. No program is named here. -/
import Derived.Test.YtchbhpfloinbdaaLisSpec2
import Derived.Test.YtchbhpfloinbdaaLisSpec3
set_option linter.unusedVariables false
set_option linter.unusedSimpArgs false
set_option maxRecDepth 100000
namespace Go.Proofs.Ytchbhpfloinbdaa.Asc

/-- an entity tag: is it weak, and what stands between the quotes -/
abbrev ET := Bool × ByteArray
def tagI (b : Int) : Bool := decide (32 < b ∧ b ≠ 34 ∧ b ≠ 127)
def tagT (l : List UInt8) : Bool := allI tagI l
/-- what stands between the quotes -/
def tagOf : List UInt8 → Option (List UInt8)
  | [] => none
  | c :: r => if c = 34 ∧ r.getLast? = some 34 ∧ tagT r.dropLast = true then some r.dropLast else none
def parE (l : List UInt8) : Option ET :=
  if l.take 2 = [87, 47] then (tagOf (l.drop 2)).map (fun t => (true, bs t)) else (tagOf l).map (fun t => (false, bs t))
def wkE (b : Bool) : List UInt8 := if b then [87, 47] else []
def fmtL (e : ET) : List UInt8 := if tagT e.2.data.toList = true then wkE e.1 ++ 34 :: (e.2.data.toList ++ [34]) else []
theorem tagOf_cons (c : UInt8) (r : List UInt8) : tagOf (c :: r) = if c = 34 ∧ r.getLast? = some 34 ∧ tagT r.dropLast = true then some r.dropLast else none := rfl
theorem tagOf_no1 {l : List UInt8} (h : l.head? ≠ some 34) : tagOf l = none := by
  cases l with
  | nil => rfl
  | cons c r => rw [tagOf_cons, if_neg]; rintro ⟨rfl, _⟩; exact h rfl
theorem tagOf_no2 {c : UInt8} {r : List UInt8} (h : r.getLast? ≠ some 34) : tagOf (c :: r) = none := by
  rw [tagOf_cons, if_neg]; rintro ⟨_, h2, _⟩; exact h h2
theorem tagOf_no3 {c : UInt8} {r : List UInt8} (h : tagT r.dropLast = false) : tagOf (c :: r) = none := by
  rw [tagOf_cons, if_neg]; rintro ⟨_, _, h2⟩; rw [h] at h2; cases h2
theorem tagOf_yes {t : List UInt8} (h : tagT t = true) : tagOf (34 :: (t ++ [34])) = some t := by
  rw [tagOf_cons, if_pos ⟨rfl, by simp, by simpa using h⟩]; simp
theorem last_snoc {l : List UInt8} {c : UInt8} (h : l.getLast? = some c) : l = l.dropLast ++ [c] := by
  have hne : l ≠ [] := by rintro rfl; cases h
  rw [List.getLast?_eq_some_getLast hne] at h
  have h2 := Option.some.inj h
  conv => lhs; rw [← List.dropLast_concat_getLast hne, h2]
theorem tagOf_some {l t : List UInt8} (h : tagOf l = some t) : l = 34 :: (t ++ [34]) ∧ tagT t = true := by
  cases l with
  | nil => cases h
  | cons c r =>
    rw [tagOf_cons] at h
    split at h
    · rename_i hc
      obtain ⟨rfl, h2, h3⟩ := hc
      obtain rfl := Option.some.inj h
      exact ⟨by rw [← last_snoc h2], h3⟩
    · cases h
theorem tagOf_short {l : List UInt8} (h : l.length < 2) : tagOf l = none := by
  rcases e : tagOf l with _ | t
  · rfl
  · have := (tagOf_some e).1
    rw [this] at h; simp at h; omega
/-- a tag that is written is read again -/
theorem par_fmt {e : ET} (h : tagT e.2.data.toList = true) : parE (fmtL e) = some e := by
  obtain ⟨b, t⟩ := e
  have h2 : tagT t.data.toList = true := h
  unfold fmtL; rw [if_pos h]
  cases b with
  | true =>
    show parE (87 :: 47 :: 34 :: (t.data.toList ++ [34])) = _
    unfold parE
    rw [if_pos (by simp)]
    show Option.map _ (tagOf (34 :: (t.data.toList ++ [34]))) = _
    rw [tagOf_yes h2]; rfl
  | false =>
    show parE (34 :: (t.data.toList ++ [34])) = _
    unfold parE
    rw [if_neg (by simp), tagOf_yes h2]; rfl
theorem par_tag {l : List UInt8} {e : ET} (h : parE l = some e) : tagT e.2.data.toList = true ∧ fmtL e = l := by
  unfold parE at h
  split at h
  · rename_i hw
    rcases ht : tagOf (l.drop 2) with _ | t
    · rw [ht] at h; cases h
    · rw [ht] at h
      obtain rfl := Option.some.inj h
      obtain ⟨e1, e2⟩ := tagOf_some ht
      have e3 : tagT (bs t).data.toList = true := e2
      refine ⟨e3, ?_⟩
      unfold fmtL
      rw [if_pos e3]
      show [87, 47] ++ 34 :: (t ++ [34]) = l
      rw [← e1, ← hw, List.take_append_drop]
  · rcases ht : tagOf l with _ | t
    · rw [ht] at h; cases h
    · rw [ht] at h
      obtain rfl := Option.some.inj h
      obtain ⟨e1, e2⟩ := tagOf_some ht
      have e3 : tagT (bs t).data.toList = true := e2
      refine ⟨e3, ?_⟩
      unfold fmtL
      rw [if_pos e3]
      exact e1.symm
theorem fmt_empty {e : ET} (h : tagT e.2.data.toList = false) : fmtL e = [] := by unfold fmtL; rw [if_neg (by rw [h]; simp)]
theorem fmt_some {e : ET} (h : tagT e.2.data.toList = true) : fmtL e = wkE e.1 ++ 34 :: (e.2.data.toList ++ [34]) := by unfold fmtL; rw [if_pos h]
theorem fmt_ne {e : ET} (h : tagT e.2.data.toList = true) : fmtL e ≠ [] := by rw [fmt_some h]; simp
theorem fmt_len21 (e : ET) : (fmtL e).length ≤ e.2.size + 4 := by
  have hz : e.2.data.toList.length = e.2.size := by simp
  by_cases h : tagT e.2.data.toList = true
  · rw [fmt_some h]
    have : (wkE e.1).length ≤ 2 := by unfold wkE; split <;> simp
    simp only [List.length_append, List.length_cons, List.length_nil]; omega
  · rw [fmt_empty (by simpa using h)]; simp
/-- the texts of a list, each read -/
def parAll : List ByteArray → Option (List ET)
  | [] => some []
  | m :: r => match parE m.data.toList, parAll r with | some e, some es => some (e :: es) | _, _ => none
theorem parAll_app : ∀ (a b : List ByteArray), parAll (a ++ b) = match parAll a, parAll b with | some x, some y => some (x ++ y) | _, _ => none
  | [], b => by
    show parAll b = match some [], parAll b with | some x, some y => some (x ++ y) | _, _ => none
    rcases parAll b with _ | y <;> rfl
  | m :: a, b => by
    show (match parE m.data.toList, parAll (a ++ b) with | some e, some es => some (e :: es) | _, _ => none) = match (match parE m.data.toList, parAll a with | some e, some es => some (e :: es) | _, _ => none), parAll b with | some x, some y => some (x ++ y) | _, _ => none
    rw [parAll_app a b]
    rcases parE m.data.toList with _ | e
    · rfl
    · rcases parAll a with _ | x
      · rfl
      · rcases parAll b with _ | y <;> rfl
theorem parAll_next {M : List ByteArray} {k : Nat} {es : List ET} {e : ET} (h : k < M.length) (ha : parAll (M.take k) = some es) (he : parE M[k].data.toList = some e) : parAll (M.take (k + 1)) = some (es ++ [e]) := by
  rw [take_next h, parAll_app, ha]
  show (match some es, (match parE M[k].data.toList, some [] with | some e, some es => some (e :: es) | _, _ => none) with | some x, some y => some (x ++ y) | _, _ => none) = _
  rw [he]
theorem parAll_bad {M : List ByteArray} {k : Nat} (h : k < M.length) (he : parE M[k].data.toList = none) : parAll M = none := by
  have e : M = M.take k ++ M[k] :: M.drop (k + 1) := by rw [← List.drop_eq_getElem_cons h, List.take_append_drop]
  rw [e, parAll_app]
  have : parAll (M[k] :: M.drop (k + 1)) = none := by
    show (match parE M[k].data.toList, parAll (M.drop (k + 1)) with | some e, some es => some (e :: es) | _, _ => none) = none
    rw [he]
  rw [this]
  rcases parAll (M.take k) with _ | x <;> rfl
theorem parAll_len : ∀ (M : List ByteArray) (es : List ET), parAll M = some es → es.length = M.length
  | [], es, h => by obtain rfl := Option.some.inj h; rfl
  | m :: r, es, h => by
    have h2 : (match parE m.data.toList, parAll r with | some e, some es => some (e :: es) | _, _ => none) = some es := h
    rcases he : parE m.data.toList with _ | e
    · rw [he] at h2; cases h2
    · rcases hr : parAll r with _ | x
      · rw [he, hr] at h2; cases h2
      · rw [he, hr] at h2
        obtain rfl := Option.some.inj h2
        rw [List.length_cons, List.length_cons, parAll_len r x hr]
/-- is the only member "*" -/
def starM (M : List ByteArray) : Bool := decide (M = [⟨#[42]⟩])
/-- the tags, is the only member "*", is there what 21.2 asks -/
def listM (M : List ByteArray) : List ET × Bool × Bool :=
  if starM M = true then ([], true, true) else if M.length = 0 ∨ 64 ≤ M.length then ([], false, false) else match parAll M with | some es => (es, false, true) | none => ([], false, false)

end Go.Proofs.Ytchbhpfloinbdaa.Asc
