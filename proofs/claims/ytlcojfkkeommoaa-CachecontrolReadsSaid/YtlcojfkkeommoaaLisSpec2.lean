/- Plain facts: members that have been joined are split into the same members. No program is named here. -/
import Derived.Test.YtlcojfkkeommoaaLisSpec
set_option linter.unusedVariables false
set_option linter.unusedSimpArgs false
set_option maxRecDepth 100000
namespace Go.Proofs.Ytlcojfkkeommoaa.Asc

/-- no separator outside quoted strings -/
def ncF (sep : UInt8) : Nat → Bool → List UInt8 → Bool
  | 0, _, _ => true
  | _ + 1, _, [] => true
  | f + 1, q, c :: r =>
    if q = true ∧ c = 92 then (match r with | [] => true | _ :: r2 => ncF sep f q r2)
    else if c = 34 then ncF sep f (!q) r
    else if c = sep ∧ q = false then false
    else ncF sep f q r
def ncL (sep : UInt8) (q : Bool) (l : List UInt8) : Bool := ncF sep l.length q l
theorem ncF_cons (sep : UInt8) (f : Nat) (q : Bool) (c : UInt8) (r : List UInt8) : ncF sep (f + 1) q (c :: r) = if q = true ∧ c = 92 then (match r with | [] => true | _ :: r2 => ncF sep f q r2) else if c = 34 then ncF sep f (!q) r else if c = sep ∧ q = false then false else ncF sep f q r := rfl
theorem ncF_fuel {sep : UInt8} : ∀ (f g : Nat) (q : Bool) (l : List UInt8), l.length ≤ f → l.length ≤ g → ncF sep f q l = ncF sep g q l
  | f, g, q, [], _, _ => by cases f <;> cases g <;> rfl
  | 0, g, q, c :: r, h, _ => by simp at h
  | f + 1, 0, q, c :: r, _, h => by simp at h
  | f + 1, g + 1, q, c :: r, hf, hg => by
    simp only [List.length_cons] at hf hg
    rw [ncF_cons, ncF_cons]
    split
    · match r, hf, hg with
      | [], _, _ => rfl
      | d :: r2, hf, hg =>
        simp only [List.length_cons] at hf hg
        exact ncF_fuel f g q r2 (by omega) (by omega)
    · split
      · exact ncF_fuel f g (!q) r (by omega) (by omega)
      · split
        · rfl
        · exact ncF_fuel f g q r (by omega) (by omega)
theorem nc_esc {sep : UInt8} {q : Bool} {c d : UInt8} {r : List UInt8} (h : q = true ∧ c = 92) : ncL sep q (c :: d :: r) = ncL sep q r := by
  unfold ncL
  show ncF sep (r.length + 1 + 1) q (c :: d :: r) = _
  rw [ncF_cons, if_pos h]
  exact ncF_fuel _ _ q r (by omega) (by omega)
theorem nc_esc1 {sep : UInt8} {q : Bool} {c : UInt8} (h : q = true ∧ c = 92) : ncL sep q [c] = true := by
  unfold ncL
  show ncF sep (0 + 1) q [c] = _
  rw [ncF_cons, if_pos h]
theorem nc_quo {sep : UInt8} {q : Bool} {c : UInt8} {r : List UInt8} (h1 : ¬ (q = true ∧ c = 92)) (h : c = 34) : ncL sep q (c :: r) = ncL sep (!q) r := by
  unfold ncL
  show ncF sep (r.length + 1) q (c :: r) = _
  rw [ncF_cons, if_neg h1, if_pos h]
theorem nc_sep {sep : UInt8} {q : Bool} {c : UInt8} {r : List UInt8} (h1 : ¬ (q = true ∧ c = 92)) (h2 : c ≠ 34) (h : c = sep ∧ q = false) : ncL sep q (c :: r) = false := by
  unfold ncL
  show ncF sep (r.length + 1) q (c :: r) = _
  rw [ncF_cons, if_neg h1, if_neg h2, if_pos h]
theorem nc_any {sep : UInt8} {q : Bool} {c : UInt8} {r : List UInt8} (h1 : ¬ (q = true ∧ c = 92)) (h2 : c ≠ 34) (h : ¬ (c = sep ∧ q = false)) : ncL sep q (c :: r) = ncL sep q r := by
  unfold ncL
  show ncF sep (r.length + 1) q (c :: r) = _
  rw [ncF_cons, if_neg h1, if_neg h2, if_neg h]
/-- what has been read so far holds no separator and leads to the state q -/
def Scan (sep : UInt8) (acc : List UInt8) (q : Bool) : Prop := ∀ l, ncL sep false (acc ++ l) = ncL sep q l
theorem pieces_nc {sep : UInt8} : ∀ (f : Nat) (q : Bool) (l acc : List UInt8), l.length ≤ f → Scan sep acc q → ∀ p ∈ cutF sep f q l acc, ncL sep false p = true
  | f, q, [], acc, h, hs, p, hp => by
    rw [cutF_nil, List.mem_singleton] at hp
    subst hp
    have := hs []
    rw [List.append_nil] at this
    rw [this]; rfl
  | 0, q, c :: r, acc, h, hs, p, hp => by simp at h
  | f + 1, q, c :: r, acc, h, hs, p, hp => by
    simp only [List.length_cons] at h
    rw [cutF_cons] at hp
    by_cases h1 : q = true ∧ c = 92
    · rw [if_pos h1] at hp
      match r, h, hp with
      | [], h, hp =>
        simp only [List.mem_singleton] at hp
        subst hp
        rw [hs [c]]; exact nc_esc1 h1
      | d :: r2, h, hp =>
        simp only [List.length_cons] at h
        refine pieces_nc f q r2 _ (by omega) (fun l => ?_) p hp
        rw [List.append_assoc, hs]; exact nc_esc h1
    · rw [if_neg h1] at hp
      by_cases h2 : c = 34
      · rw [if_pos h2] at hp
        refine pieces_nc f (!q) r _ (by omega) (fun l => ?_) p hp
        rw [List.append_assoc, hs]; exact nc_quo h1 h2
      · rw [if_neg h2] at hp
        by_cases h3 : c = sep ∧ q = false
        · rw [if_pos h3] at hp
          rcases List.mem_cons.mp hp with e | hp
          · subst e
            have := hs []
            rw [List.append_nil] at this
            rw [this]; rfl
          · refine pieces_nc f q r [] (by omega) (fun l => ?_) p hp
            rw [h3.2]; rfl
        · rw [if_neg h3] at hp
          refine pieces_nc f q r _ (by omega) (fun l => ?_) p hp
          rw [List.append_assoc, hs]; exact nc_any h1 h2 h3
theorem nc_front {sep : UInt8} : ∀ (n : Nat) (q : Bool) (x y : List UInt8), x.length ≤ n → ncL sep q (x ++ y) = true → ncL sep q x = true
  | n, q, [], y, _, _ => rfl
  | 0, q, c :: r, y, h, _ => by simp at h
  | n + 1, q, c :: r, y, h, hn => by
    simp only [List.length_cons] at h
    rw [List.cons_append] at hn
    by_cases h1 : q = true ∧ c = 92
    · match r, h, hn with
      | [], _, _ => exact nc_esc1 h1
      | d :: r2, h, hn =>
        simp only [List.length_cons] at h
        rw [List.cons_append, nc_esc h1] at hn
        rw [nc_esc h1]
        exact nc_front n q r2 y (by omega) hn
    · by_cases h2 : c = 34
      · rw [nc_quo h1 h2] at hn
        rw [nc_quo h1 h2]
        exact nc_front n (!q) r y (by omega) hn
      · by_cases h3 : c = sep ∧ q = false
        · rw [nc_sep h1 h2 h3] at hn; cases hn
        · rw [nc_any h1 h2 h3] at hn
          rw [nc_any h1 h2 h3]
          exact nc_front n q r y (by omega) hn
theorem nc_blank {a x : List UInt8} (ha : ∀ c ∈ a, blankB c = true) : ncL 44 false (a ++ x) = ncL 44 false x := by
  have key : ∀ c : UInt8, blankB c = true → c ≠ 34 ∧ c ≠ 44 := by
    intro c h
    constructor <;> (intro e; subst e; exact absurd h (by decide))
  induction a with
  | nil => rfl
  | cons c a ih =>
    obtain ⟨k1, k2⟩ := key c (ha c (by simp))
    rw [List.cons_append, nc_any (by simp) k1 (fun h => k2 h.1)]
    exact ih (fun d hd => ha d (by simp [hd]))
theorem nc_cut {sep : UInt8} : ∀ (f : Nat) (q : Bool) (l acc : List UInt8), l.length ≤ f → ncL sep q l = true → cutF sep f q l acc = [acc ++ l]
  | f, q, [], acc, _, _ => by rw [cutF_nil, List.append_nil]
  | 0, q, c :: r, acc, h, _ => by simp at h
  | f + 1, q, c :: r, acc, h, hn => by
    simp only [List.length_cons] at h
    rw [cutF_cons]
    by_cases h1 : q = true ∧ c = 92
    · rw [if_pos h1]
      match r, h, hn with
      | [], _, _ => rfl
      | d :: r2, h, hn =>
        simp only [List.length_cons] at h
        rw [nc_esc h1] at hn
        show cutF sep f q r2 (acc ++ [c, d]) = _
        rw [nc_cut f q r2 _ (by omega) hn]; simp
    · rw [if_neg h1]
      by_cases h2 : c = 34
      · rw [nc_quo h1 h2] at hn
        rw [if_pos h2, nc_cut f (!q) r _ (by omega) hn]; simp
      · rw [if_neg h2]
        by_cases h3 : c = sep ∧ q = false
        · rw [nc_sep h1 h2 h3] at hn; cases hn
        · rw [nc_any h1 h2 h3] at hn
          rw [if_neg h3, nc_cut f q r _ (by omega) hn]; simp
/-- what a member is: trimmed, not empty, one piece -/
theorem member_facts {s m : List UInt8} (h : m ∈ splitL s) : m ≠ [] ∧ trimL m = m ∧ cutL 44 m = [m] := by
  have h1 := List.mem_of_mem_take h
  unfold memL at h1
  obtain ⟨h2, h3⟩ := List.mem_filter.mp h1
  obtain ⟨p, hp, rfl⟩ := List.mem_map.mp h2
  have hne : trimL p ≠ [] := by intro e; rw [e] at h3; simp at h3
  refine ⟨hne, trim_trim p, ?_⟩
  have hn := pieces_nc s.length false s [] (Nat.le_refl _) (fun l => rfl) p hp
  obtain ⟨a, b, e, ha, hb, _⟩ := trim_split p
  rw [e, nc_blank ha] at hn
  have hm := nc_front _ false _ b (Nat.le_refl _) hn
  unfold cutL
  rw [nc_cut _ false _ [] (Nat.le_refl _) hm]; rfl
theorem cut_head {sep : UInt8} (x : List UInt8) : ∀ (f : Nat) (q : Bool) (l acc : List UInt8), l.length ≤ f → ∃ p ps, cutF sep f q l acc = p :: ps ∧ cutF sep f q l (x ++ acc) = (x ++ p) :: ps
  | f, q, [], acc, _ => ⟨acc, [], cutF_nil _ _ _ _, cutF_nil _ _ _ _⟩
  | 0, q, c :: r, acc, h => by simp at h
  | f + 1, q, c :: r, acc, h => by
    simp only [List.length_cons] at h
    rw [cutF_cons, cutF_cons]
    split
    · match r, h with
      | [], _ => exact ⟨acc ++ [c], [], rfl, by simp⟩
      | d :: r2, h =>
        simp only [List.length_cons] at h
        have := cut_head (sep := sep) x f q r2 (acc ++ [c, d]) (by omega)
        rw [← List.append_assoc] at this
        exact this
    · split
      · have := cut_head (sep := sep) x f (!q) r (acc ++ [c]) (by omega)
        rw [← List.append_assoc] at this
        exact this
      · split
        · exact ⟨acc, _, rfl, rfl⟩
        · have := cut_head (sep := sep) x f q r (acc ++ [c]) (by omega)
          rw [← List.append_assoc] at this
          exact this
theorem trim_sp (p : List UInt8) : trimL (32 :: p) = trimL p := by
  have := trim_around [32] [] p (by simp [blankB]; decide) (by simp)
  simpa using this
theorem cut_sp (l : List UInt8) : memL (cutL 44 (32 :: l)) = memL (cutL 44 l) := by
  unfold cutL
  show memL (cutF 44 (l.length + 1) false (32 :: l) []) = _
  rw [cutF_cons, if_neg (by simp), if_neg (by decide), if_neg (by decide)]
  obtain ⟨p, ps, e1, e2⟩ := cut_head (sep := 44) [32] l.length false l [] (Nat.le_refl _)
  show memL (cutF 44 l.length false l ([32] ++ [])) = _
  rw [e1, e2]
  unfold memL
  simp only [List.map_cons, List.singleton_append, trim_sp]
theorem join_mem : ∀ (ms : List (List UInt8)), (∀ m ∈ ms, m ≠ [] ∧ trimL m = m ∧ cutL 44 m = [m] ∧ endF m.length false m = false) → memL (cutL 44 (joinC ms)) = ms
  | [], _ => by decide
  | [m], h => by
    obtain ⟨h1, h2, h3, _⟩ := h m (by simp)
    show memL (cutL 44 m) = [m]
    rw [h3, memL_one (by rw [h2]; exact h1), h2]
  | m :: m2 :: ms, h => by
    obtain ⟨h1, h2, h3, h4⟩ := h m (by simp)
    have ih := join_mem (m2 :: ms) (fun x hx => h x (by simp [hx]))
    have e : joinC (m :: m2 :: ms) = m ++ 44 :: (32 :: joinC (m2 :: ms)) := by simp [joinC]
    have hc := cutF_app (sep := 44) ⟨by decide, by decide⟩ m.length false m (32 :: joinC (m2 :: ms)) [] (Nat.le_refl _) h4
    rw [e]
    have hl : (m ++ 44 :: (32 :: joinC (m2 :: ms))).length = m.length + 1 + (32 :: joinC (m2 :: ms)).length := by simp; omega
    have e2 : cutL 44 (m ++ 44 :: (32 :: joinC (m2 :: ms))) = cutL 44 m ++ cutL 44 (32 :: joinC (m2 :: ms)) := by
      unfold cutL; rw [hl]; exact hc
    rw [e2, memL_append, cut_sp, ih, h3, memL_one (by rw [h2]; exact h1), h2]
    rfl
/-- for ListBack -/
theorem split_back {s : List UInt8} (h : ∀ m ∈ splitL s, (splitL (m ++ [44, 120])).length = 2) : splitL (joinC (splitL s)) = splitL s := by
  have hm := join_mem (splitL s) (fun m hm => by
    obtain ⟨h1, h2, h3⟩ := member_facts hm
    refine ⟨h1, h2, h3, ends_open ?_⟩
    rw [h m hm]
    have : splitL m = [m] := by unfold splitL; rw [h3, memL_one (by rw [h2]; exact h1), h2]; rfl
    rw [this]; rfl)
  show (memL (cutL 44 (joinC (splitL s)))).take 64 = _
  rw [hm]
  apply List.take_of_length_le
  unfold splitL
  rw [List.length_take]; omega

end Go.Proofs.Ytlcojfkkeommoaa.Asc
