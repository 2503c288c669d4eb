/- Merged texts: AccSpec2 LanSpec3 QvaSpec2 AccSpec3 VarSpec6 VarSpec2 VarSpec4 LisPc VarSpec5 BldMem. -/
import Derived.Test.YtklfpkaemnhdhaaGreatDoorZa01
import Derived.Test.YtklfpkaemnhdhaaGreatDoorZa02
import Derived.Test.YtklfpkaemnhdhaaGreatDoorZa03
import Derived.Test.YtklfpkaemnhdhaaGreatDoorZa05
import Derived.Test.YtklfpkaemnhdhaaGreatDoorZa06
import Derived.Test.YtklfpkaemnhdhaaGreatDoorZa07
import Derived.BigQuiet
import Derived.Deep.QuietTactic
import Derived.Deep.RegionHeld3
import Derived.Laws.Externs
import Derived.Laws.IdiomCopy
import Derived.Lib.AppendStr
import Derived.Lib.Builder
import Derived.Lib.MakeNoZero
import Derived.Lib.UnsafeStr
set_option linter.unusedVariables false
set_option linter.unusedSimpArgs false
set_option maxRecDepth 100000
namespace Go.Proofs.YtklfpkaemnhdhaaGreatDoor.Asc
section
theorem cut_last {sep c : UInt8} (h34 : c ≠ 34) (h92 : c ≠ 92) (hs : c ≠ sep) : ∀ (f : Nat) (q : Bool) (l acc : List UInt8), l.length ≤ f → ∃ ps p, cutF sep f q l acc = ps ++ [p] ∧ cutF sep (f + 1) q (l ++ [c]) acc = ps ++ [p ++ [c]]
  | f, q, [], acc, _ => by
    refine ⟨[], acc, by rw [cutF_nil]; rfl, ?_⟩
    rw [List.nil_append, cutF_cons, if_neg (fun h => h92 h.2), if_neg h34, if_neg (fun h => hs h.1), cutF_nil]; rfl
  | 0, q, d :: r, acc, h => by simp at h
  | f + 1, q, d :: r, acc, h => by
    simp only [List.length_cons] at h
    rw [List.cons_append, cutF_cons, cutF_cons]
    by_cases h1 : q = true ∧ d = 92
    · rw [if_pos h1, if_pos h1]
      match r, h with
      | [], _ => exact ⟨[], acc ++ [d], rfl, by show cutF sep (f + 1) q [] (acc ++ [d, c]) = _; rw [cutF_nil]; simp⟩
      | e :: r2, h =>
        simp only [List.length_cons] at h
        exact cut_last h34 h92 hs f q r2 (acc ++ [d, e]) (by omega)
    · rw [if_neg h1, if_neg h1]
      by_cases h2 : d = 34
      · rw [if_pos h2, if_pos h2]; exact cut_last h34 h92 hs f (!q) r (acc ++ [d]) (by omega)
      · rw [if_neg h2, if_neg h2]
        by_cases h3 : d = sep ∧ q = false
        · rw [if_pos h3, if_pos h3]
          obtain ⟨ps, p, e1, e2⟩ := cut_last h34 h92 hs f q r [] (by omega)
          exact ⟨acc :: ps, p, by rw [e1]; rfl, by rw [e2]; rfl⟩
        · rw [if_neg h3, if_neg h3]; exact cut_last h34 h92 hs f q r (acc ++ [d]) (by omega)
theorem end_last {c : UInt8} (h34 : c ≠ 34) (h92 : c ≠ 92) : ∀ (f : Nat) (q : Bool) (l : List UInt8), l.length ≤ f → endF f q l = false → endF (f + 1) q (l ++ [c]) = false
  | f, q, [], _, h => by
    rw [endF_nil] at h
    rw [List.nil_append, endF_cons, if_neg (fun q => h92 q.2), if_neg h34, endF_nil]; exact h
  | 0, q, d :: r, hl, _ => by simp at hl
  | f + 1, q, d :: r, hl, h => by
    simp only [List.length_cons] at hl
    rw [endF_cons] at h
    rw [List.cons_append, endF_cons]
    by_cases h1 : q = true ∧ d = 92
    · rw [if_pos h1] at h ⊢
      match r, hl, h with
      | [], _, h => cases h
      | e :: r2, hl, h =>
        simp only [List.length_cons] at hl
        exact end_last h34 h92 f q r2 (by omega) h
    · rw [if_neg h1] at h ⊢
      by_cases h2 : d = 34
      · rw [if_pos h2] at h ⊢; exact end_last h34 h92 f (!q) r (by omega) h
      · rw [if_neg h2] at h ⊢; exact end_last h34 h92 f q r (by omega) h
theorem blank_chars {c : UInt8} (h : blankB c = true) : c ≠ 34 ∧ c ≠ 92 ∧ c ≠ 44 := by
  have key : ∀ n : Fin 256, blankB (UInt8.ofNat n.1) = true → UInt8.ofNat n.1 ≠ 34 ∧ UInt8.ofNat n.1 ≠ 92 ∧ UInt8.ofNat n.1 ≠ 44 := by decide +kernel
  have := key ⟨c.toNat, c.toNat_lt⟩
  simp only [UInt8.ofNat_toNat] at this
  exact this h
theorem trim_back {c : UInt8} (h : blankB c = true) (p : List UInt8) : trimL (p ++ [c]) = trimL p := by
  have := trim_around [] [c] p (by simp) (by simpa using h)
  simpa using this
theorem trim_front {c : UInt8} (h : blankB c = true) (p : List UInt8) : trimL (c :: p) = trimL p := by
  have := trim_around [c] [] p (by simpa using h) (by simp)
  simpa using this
theorem mem_back {c : UInt8} (h : blankB c = true) (l : List UInt8) : memL (cutL 44 (l ++ [c])) = memL (cutL 44 l) := by
  obtain ⟨h34, h92, h44⟩ := blank_chars h
  obtain ⟨ps, p, e1, e2⟩ := cut_last (sep := 44) h34 h92 h44 l.length false l [] (Nat.le_refl _)
  have hl : (l ++ [c]).length = l.length + 1 := by simp
  unfold cutL
  rw [hl, e1, e2, memL_append, memL_append]
  congr 1
  unfold memL
  simp only [List.map_cons, List.map_nil, trim_back h]
theorem mem_front {c : UInt8} (h : blankB c = true) (l : List UInt8) : memL (cutL 44 (c :: l)) = memL (cutL 44 l) := by
  obtain ⟨h34, h92, h44⟩ := blank_chars h
  unfold cutL
  show memL (cutF 44 (l.length + 1) false (c :: l) []) = _
  rw [cutF_cons, if_neg (by simp), if_neg h34, if_neg (fun q => h44 q.1)]
  obtain ⟨p, ps, e1, e2⟩ := cut_head (sep := 44) [c] l.length false l [] (Nat.le_refl _)
  show memL (cutF 44 l.length false l ([c] ++ [])) = _
  rw [e1, e2]
  unfold memL
  simp only [List.map_cons, List.singleton_append, trim_front h]
end
section
def chkL (n : Nat) : Bool := ((lowB (UInt8.ofNat n) == 45) == (UInt8.ofNat n == 45)) && ((lowB (UInt8.ofNat n) == 42) == (UInt8.ofNat n == 42)) && (lettI (lowB (UInt8.ofNat n)).toNat == lettI (n : Int)) && (digitI (lowB (UInt8.ofNat n)).toNat == digitI (n : Int))
theorem chkL_all : ∀ x : Fin 256, chkL x.1 = true := by decide +kernel
theorem low_more (c : UInt8) : (lowB c = 45 ↔ c = 45) ∧ (lowB c = 42 ↔ c = 42) ∧ lettI (lowB c).toNat = lettI c.toNat ∧ digitI (lowB c).toNat = digitI c.toNat := by
  have k := chkL_all ⟨c.toNat, c.toNat_lt⟩
  unfold chkL at k
  simp only [UInt8.ofNat_toNat, Bool.and_eq_true, beq_iff_eq] at k
  obtain ⟨⟨⟨k1, k2⟩, k3⟩, k4⟩ := k
  exact ⟨by rw [← beq_iff_eq, k1, beq_iff_eq], by rw [← beq_iff_eq, k2, beq_iff_eq], k3, k4⟩
theorem lowL_cons (c : UInt8) (r : List UInt8) : lowL (c :: r) = lowB c :: lowL r := rfl
theorem sub_low : ∀ l : List UInt8, subL (lowL l) = (subL l).map lowL
  | [] => rfl
  | c :: r => by
    have ih := sub_low r
    obtain ⟨x, xs, e⟩ := subL_cons r
    rw [e, List.map_cons] at ih
    rw [lowL_cons]
    by_cases hc : c = 45
    · have h2 := (low_more c).1.2 hc
      rw [h2, hc, subL_hyp, subL_hyp, ih, e]; rfl
    · have h2 : ¬ lowB c = 45 := fun q => hc ((low_more c).1.1 q)
      rw [subL_chr h2 ih, subL_chr hc e]; rfl
theorem lowL_len2 (l : List UInt8) : (lowL l).length = l.length := by simp [lowL]
theorem subOk_low (f : Bool) (x : List UInt8) : subOk f (lowL x) = subOk f x := by
  unfold subOk
  rw [lowL_len2, lowL_map, List.all_map]
  congr 1
  apply List.all_congr rfl
  intro c
  have h := low_more c
  show (lettI (lowB c).toNat || (!f && digitI (lowB c).toNat)) = _
  rw [h.2.2.1, h.2.2.2]
theorem subsOk_low : ∀ L : List (List UInt8), subsOk (L.map lowL) = subsOk L
  | [] => rfl
  | x :: xs => by
    show (subOk true (lowL x) && (xs.map lowL).all (subOk false)) = (subOk true x && xs.all (subOk false))
    rw [subOk_low, List.all_map]
    congr 1
    apply List.all_congr rfl
    intro y
    exact subOk_low false y
theorem tag_low (l : List UInt8) : tagL (lowL l) = tagL l := by unfold tagL; rw [sub_low, subsOk_low]
theorem star_low (l : List UInt8) : lowL l = [42] ↔ l = [42] := by
  match l with
  | [] => simp [lowL]
  | [c] => rw [lowL_cons]; simp [lowL, (low_more c).2.1]
  | _ :: _ :: _ => simp [lowL]
theorem range_low (l : List UInt8) : rangeT (lowL l) = rangeT l := by
  unfold rangeT
  rw [tag_low, decide_eq_decide.2 (star_low l)]
end
section
/-- the thousandths that at most three digits say -/
def fracO (ds : List UInt8) : Option Int := if 3 < ds.length then none else qvD 0 100 ds
def wt3 (k : Nat) : Int := if k = 0 then 100 else if k = 1 then 10 else if k = 2 then 1 else 0
theorem wt3_next (k : Nat) (h : k < 3) : wt3 k / 10 = wt3 (k + 1) := by
  match k, h with
  | 0, _ => rfl
  | 1, _ => rfl
  | 2, _ => rfl
theorem qvD_shift : ∀ (ds : List UInt8) (q x w : Int), qvD (q + x) w ds = (qvD q w ds).map (· + x)
  | [], q, x, w => rfl
  | c :: r, q, x, w => by
    rw [qvD_cons, qvD_cons]
    by_cases h : digitI c.toNat = true
    · rw [if_pos h, if_pos h, ← qvD_shift r, show q + x + ((c.toNat : Int) - 48) * w = q + ((c.toNat : Int) - 48) * w + x from by omega]
    · rw [if_neg h, if_neg h]; rfl
theorem dig_bd {c : UInt8} (h : digitI c.toNat = true) : 48 ≤ (c.toNat : Int) ∧ (c.toNat : Int) ≤ 57 := by simpa [digitI] using h
theorem frac_bd {ds : List UInt8} {t : Int} (h : fracO ds = some t) : 0 ≤ t ∧ t ≤ 999 := by
  unfold fracO at h
  split at h
  · cases h
  · rename_i hl
    match ds, hl with
    | [], _ => cases h; omega
    | [a], _ =>
      rw [qvD_cons] at h
      split at h
      · rename_i ha; have := dig_bd ha; cases h; omega
      · cases h
    | [a, b], _ =>
      rw [qvD_cons] at h
      split at h
      · rename_i ha
        rw [qvD_cons] at h
        split at h
        · rename_i hb; have := dig_bd ha; have := dig_bd hb; cases h; omega
        · cases h
      · cases h
    | [a, b, c], _ =>
      rw [qvD_cons] at h
      split at h
      · rename_i ha
        rw [qvD_cons] at h
        split at h
        · rename_i hb
          rw [qvD_cons] at h
          split at h
          · rename_i hc; have := dig_bd ha; have := dig_bd hb; have := dig_bd hc; cases h; omega
          · cases h
        · cases h
      · cases h
    | _ :: _ :: _ :: _ :: _, hl => exact absurd (by simp only [List.length_cons]; omega) hl
/-- what is said by the digit ahead of the point and the thousandths behind it -/
def selQ (W : List UInt8) : Option Int → Option Int
  | none => none
  | some t => if W = [48] then some t else if W = [49] ∧ t = 0 then some 1000 else none
/-- a text cut at a point in its second place -/
def cutQ : List UInt8 → List UInt8 × List UInt8
  | a :: p :: ds => if p = 46 then ([a], ds) else (a :: p :: ds, [])
  | l => (l, [])
theorem sel_cut (l : List UInt8) : selQ (cutQ l).1 (fracO (cutQ l).2) = qvL l := by
  match l with
  | [] => rfl
  | [a] =>
    show selQ [a] (some 0) = (if 5 < 0 + 1 ∨ ¬ (a = 48 ∨ a = 49) then none else qvEnd (some (((a.toNat : Int) - 48) * 1000)))
    unfold selQ
    by_cases h8 : a = 48
    · subst h8; rfl
    · by_cases h9 : a = 49
      · subst h9; rfl
      · simp [h8, h9]
  | a :: p :: ds =>
    rw [qv_more]
    show selQ (if p = 46 then ([a], ds) else (a :: p :: ds, [])).1 (fracO (if p = 46 then ([a], ds) else (a :: p :: ds, [])).2) = _
    by_cases hp : p = 46
    · rw [if_pos hp]
      by_cases hl : ds.length ≤ 3
      · by_cases h8 : a = 48
        · rw [if_pos ⟨hl, .inl h8, hp⟩]
          subst h8
          have e : fracO ds = qvD 0 100 ds := by unfold fracO; rw [if_neg (by omega)]
          show selQ [48] (fracO ds) = qvEnd (qvD 0 100 ds)
          rw [← e]
          cases hf : fracO ds with
          | none => rfl
          | some t => have := frac_bd hf; show (if ([48] : List UInt8) = [48] then some t else if ([48] : List UInt8) = [49] ∧ t = 0 then some 1000 else none) = (if 1000 < t then none else some t); rw [if_pos rfl, if_neg (by omega)]
        · by_cases h9 : a = 49
          · rw [if_pos ⟨hl, .inr h9, hp⟩]
            subst h9
            have e : qvD (0 + 1000) 100 ds = (fracO ds).map (· + 1000) := by unfold fracO; rw [if_neg (by omega), qvD_shift]
            show selQ [49] (fracO ds) = qvEnd (qvD (0 + 1000) 100 ds)
            rw [e]
            cases hf : fracO ds with
            | none => rfl
            | some t =>
              have := frac_bd hf
              show (if ([49] : List UInt8) = [48] then some t else if ([49] : List UInt8) = [49] ∧ t = 0 then some 1000 else none) = (if 1000 < t + 1000 then none else some (t + 1000))
              rw [if_neg (by decide)]
              by_cases h0 : t = 0
              · rw [if_pos ⟨rfl, h0⟩, if_neg (by omega), h0]; rfl
              · rw [if_neg (fun q => h0 q.2), if_pos (by omega)]
          · rw [if_neg (fun q => q.2.1.elim h8 h9)]
            show selQ [a] (fracO ds) = none
            cases fracO ds with
            | none => rfl
            | some t => show (if [a] = [48] then some t else if [a] = [49] ∧ t = 0 then some 1000 else none) = none; simp [h8, h9]
      · rw [if_neg (fun q => hl q.1)]
        have e : fracO ds = none := by unfold fracO; rw [if_pos (by omega)]
        show selQ [a] (fracO ds) = none
        rw [e]; rfl
    · rw [if_neg hp, if_neg (fun q => hp q.2.2)]
      show selQ (a :: p :: ds) (some 0) = none
      unfold selQ; simp
end
section
theorem pc_tok {v p : List UInt8} (hv : tokL v = true) (h : Piece 44 p) : Piece 44 (v ++ p) :=
  Piece.plain (fun c hc => ⟨(tok_not (tok_byte hv c hc)).1, (tok_not (tok_byte hv c hc)).2.2.2.1⟩) h
theorem pc_val (v : List UInt8) {p : List UInt8} (h : Piece 44 p) : Piece 44 (valP v ++ p) := by
  unfold valP
  split
  · rename_i ht; exact pc_tok ht h
  · exact Piece.quote 44 v h
theorem pc_fmt : ∀ (L : List F) {v : List UInt8}, (∀ q, Piece 44 q → Piece 44 (v ++ q)) → (∀ p ∈ L, GoodP p) → Piece 44 (fmtPL v L)
  | [], v, hv, _ => by
    have := hv [] (Piece.nil 44)
    unfold fmtPL; simpa using this
  | p :: L, v, hv, h => by
    have ih := pc_fmt L (v := v ++ 59 :: oneP p) (fun q hq => by
      rw [List.append_assoc, List.cons_append]
      refine hv _ (Piece.cons (by decide) (by decide) ?_)
      unfold oneP
      rw [List.append_assoc, List.cons_append]
      exact pc_tok (h p (by simp)).1 (Piece.cons (by decide) (by decide) (pc_val _ hq))) (fun q hq => h q (by simp [hq]))
    unfold fmtPL at ih ⊢
    rw [List.flatMap_cons, ← List.append_assoc]
    exact ih
theorem first_ok {v r : List UInt8} (hv : tokL v = true) : ∀ c r', v ++ r = c :: r' → blankB c = false := by
  intro c r' h
  match v, hv, h with
  | d :: v', hv, h =>
    simp only [List.cons_append, List.cons.injEq] at h
    obtain ⟨rfl, _⟩ := h
    exact (tok_more (tok_byte hv _ (by simp))).2.2.2.2
  | [], hv, _ => exact absurd rfl (tok_ne hv)
theorem last_tok {v : List UInt8} (hv : tokL v = true) : ∀ c r, v = r ++ [c] → blankB c = false := by
  intro c r h
  exact (tok_more (tok_byte hv c (by rw [h]; simp))).2.2.2.2
theorem last_app13 {x y : List UInt8} (hy : y ≠ []) (h : ∀ c r, y = r ++ [c] → blankB c = false) : ∀ c r, x ++ y = r ++ [c] → blankB c = false := by
  intro c r e
  obtain ⟨y', d, rfl⟩ : ∃ y' d, y = y' ++ [d] := ⟨y.dropLast, y.getLast hy, (List.dropLast_concat_getLast hy).symm⟩
  have e2 : (x ++ (y' ++ [d])).getLast? = (r ++ [c]).getLast? := by rw [e]
  rw [← List.append_assoc, List.getLast?_append, List.getLast?_append] at e2
  simp at e2
  subst e2
  exact h d y' rfl
theorem fmt_last {v : List UInt8} (hv : v ≠ []) (hl : ∀ c r, v = r ++ [c] → blankB c = false) : ∀ (L : List F), ∀ c r, fmtPL v L = r ++ [c] → blankB c = false
  | [] => by unfold fmtPL; simpa using hl
  | p :: L => by
    have ih := fmt_last (v := v ++ 59 :: oneP p) (by simp [hv]) (by
      have e : v ++ 59 :: oneP p = (v ++ 59 :: (p.1.data.toList ++ [61])) ++ valP p.2.data.toList := by unfold oneP; simp
      rw [e]
      exact last_app13 (val_ne _) (last_val _)) L
    unfold fmtPL at ih ⊢
    rw [List.flatMap_cons, ← List.append_assoc]
    exact ih
/-- a text that is a member -/
def IsMem (m : List UInt8) : Prop := m ≠ [] ∧ trimL m = m ∧ cutL 44 m = [m] ∧ endF m.length false m = false
theorem fmt_mem {v : List UInt8} {L : List F} (hp : ∀ q, Piece 44 q → Piece 44 (v ++ q)) (hne : v ≠ []) (hf : ∀ r, ∀ c r', v ++ r = c :: r' → blankB c = false) (hl : ∀ c r, v = r ++ [c] → blankB c = false) (hL : ∀ p ∈ L, GoodP p) : IsMem (fmtPL v L) := by
  have hP := pc_fmt L hp hL
  refine ⟨by unfold fmtPL; simp [hne], ?_, cut_piece hP, hP.2⟩
  have := trim_char [] (fmtPL v L) [] (by simp) (by simp) (fun c r h => hf _ c r h) (fmt_last hne hl L)
  simpa using this
def qPar (q : Int) : F := (⟨#[113]⟩, bs (fmtQ q))
theorem fmtQ_tok {q : Int} (h0 : 0 ≤ q) (h1 : q ≤ 1000) : tokL (fmtQ q) = true := by
  have key : ∀ n : Fin 1001, tokL (fmtQ (n.1 : Int)) = true := by decide +kernel
  have := key ⟨q.toNat, by omega⟩
  simp only at this
  rwa [show ((q.toNat : Nat) : Int) = q from by omega] at this
theorem qPar_good {q : Int} (h0 : 0 ≤ q) (h1 : q ≤ 1000) : GoodP (qPar q) := by
  refine ⟨by show tokL [113] = true; decide +kernel, by show lowL [113] = [113]; decide +kernel, ?_⟩
  show textL (fmtQ q) = true
  exact tok_text (fmtQ_tok h0 h1)
theorem qPar_is (q : Int) : isQ (qPar q) = true := by unfold isQ qPar; simp
theorem qPar_one {q : Int} (h0 : 0 ≤ q) (h1 : q ≤ 1000) : 59 :: oneP (qPar q) = 59 :: 113 :: 61 :: fmtQ q := by
  unfold oneP qPar
  show 59 :: ([113] ++ 61 :: valP (fmtQ q)) = _
  rw [val_tok (fmtQ_tok h0 h1)]; rfl
theorem fmt_snoc (v : List UInt8) (L : List F) (p : F) : fmtPL v (L ++ [p]) = fmtPL v L ++ 59 :: oneP p := by unfold fmtPL; simp
/-- the parameters that are written: those before q, and q unless it is 1000 -/
def withQ (P : List F) (q : Int) : List F := if q = 1000 then P else P ++ [qPar q]
theorem one_with {v : List UInt8} {P : List F} {q : Int} {r : ByteArray} (hr : r.data.toList = fmtPL v P) (h0 : 0 ≤ q) (h1 : q ≤ 1000) : onePref (r, q) = fmtPL v (withQ P q) := by
  unfold onePref withQ
  simp only
  by_cases h : q = 1000
  · rw [if_pos h, if_pos h, List.append_nil, hr]
  · rw [if_neg h, if_neg h, fmt_snoc, qPar_one h0 h1, hr]
theorem with_good {P : List F} {q : Int} (hP : ∀ p ∈ P, GoodP p) (h0 : 0 ≤ q) (h1 : q ≤ 1000) : ∀ p ∈ withQ P q, GoodP p := by
  unfold withQ
  split
  · exact hP
  · intro p hp
    rcases List.mem_append.1 hp with h | h
    · exact hP p h
    · rw [List.mem_singleton.1 h]; exact qPar_good h0 h1
theorem with_at {P : List F} {q : Int} (hP : ∀ p ∈ P, isQ p = false) : atQ (withQ P q) = P.length := by
  refine atQ_is (fun j hj hjk => ?_) ?_
  · have e : (withQ P q)[j] = P[j] := by
      unfold withQ at hj ⊢
      split
      · rfl
      · rw [List.getElem_append_left hjk]
    rw [e]; exact hP _ (List.getElem_mem _)
  · unfold withQ
    split
    · exact .inl rfl
    · refine .inr ⟨by simp, ?_⟩
      rw [List.getElem_append_right (by omega)]
      simp [qPar_is]
theorem with_qual {P : List F} {q : Int} (hP : ∀ p ∈ P, isQ p = false) (h0 : 0 ≤ q) (h1 : q ≤ 1000) : qualP (withQ P q) = some q := by
  have ha := with_at (q := q) hP
  unfold qualP
  by_cases h : q = 1000
  · have e : withQ P q = P := by unfold withQ; rw [if_pos h]
    rw [dif_neg (by rw [ha, e]; omega), h]
  · have e : withQ P q = P ++ [qPar q] := by unfold withQ; rw [if_neg h]
    have hlt : atQ (withQ P q) < (withQ P q).length := by rw [ha, e]; simp
    rw [dif_pos hlt]
    have e2 : ((withQ P q)[atQ (withQ P q)]'hlt) = qPar q := by
      have : ∀ (M : List F) (n : Nat) (hn : n < M.length), M = P ++ [qPar q] → n = P.length → M[n] = qPar q := by
        intro M n hn hM hnn
        subst hM; subst hnn
        rw [List.getElem_append_right (by omega)]; simp
      exact this _ _ hlt e ha
    rw [e2]
    exact qv_read q h0 h1
theorem with_take {P : List F} {q : Int} : (withQ P q).take P.length = P := by
  unfold withQ
  split
  · rw [List.take_length]
  · rw [List.take_left']; rfl
theorem qv_bounds {l : List UInt8} {q : Int} (h : qvL l = some q) : 0 ≤ q ∧ q ≤ 1000 := by
  rw [← sel_cut] at h
  cases hf : fracO (cutQ l).2 with
  | none => rw [hf] at h; cases h
  | some t =>
    have hb := frac_bd hf
    rw [hf] at h
    have h' : (if (cutQ l).1 = [48] then some t else if (cutQ l).1 = [49] ∧ t = 0 then some 1000 else none) = some q := h
    split at h'
    · cases h'; omega
    · split at h'
      · cases h'; omega
      · cases h'
end
section
theorem sameV_refl (n x : ByteArray) : sameV n x x = true := by
  unfold sameV
  split
  · exact fold_refl _
  · split
    · exact decide_eq_true rfl
    · exact decide_eq_true rfl
theorem sameV_symm (n x y : ByteArray) : sameV n y x = sameV n x y := by
  unfold sameV
  split
  · exact fold_symm _ _
  · split
    · exact decide_eq_decide.2 ⟨Eq.symm, Eq.symm⟩
    · exact decide_eq_decide.2 ⟨Eq.symm, Eq.symm⟩
theorem sameV_trans {n x y z : ByteArray} (h1 : sameV n x y = true) (h2 : sameV n y z = true) : sameV n x z = true := by
  unfold sameV at h1 h2 ⊢
  split at h1
  · rename_i hk
    rw [if_pos hk] at h2 ⊢
    exact fold_trans h1 h2
  · rename_i hk
    rw [if_neg hk] at h2 ⊢
    split at h1
    · rename_i hk2
      rw [if_pos hk2] at h2 ⊢
      exact decide_eq_true ((of_decide_eq_true h1).trans (of_decide_eq_true h2))
    · rename_i hk2
      rw [if_neg hk2] at h2 ⊢
      exact decide_eq_true ((of_decide_eq_true h1).trans (of_decide_eq_true h2))
def chkS (n : Nat) : Bool := ((lowB (UInt8.ofNat n) == 34) == (UInt8.ofNat n == 34)) && ((lowB (UInt8.ofNat n) == 92) == (UInt8.ofNat n == 92)) && ((lowB (UInt8.ofNat n) == 59) == (UInt8.ofNat n == 59)) && ((lowB (UInt8.ofNat n) == 61) == (UInt8.ofNat n == 61)) && ((lowB (UInt8.ofNat n) == 47) == (UInt8.ofNat n == 47)) && (blankB (lowB (UInt8.ofNat n)) == blankB (UInt8.ofNat n)) && (tokI (lowB (UInt8.ofNat n)).toNat == tokI (n : Int)) && (textI (lowB (UInt8.ofNat n)).toNat == textI (n : Int))
theorem chkS_all : ∀ x : Fin 256, chkS x.1 = true := by decide +kernel
theorem low_chr (c : UInt8) : (lowB c = 34 ↔ c = 34) ∧ (lowB c = 92 ↔ c = 92) ∧ (lowB c = 59 ↔ c = 59) ∧ (lowB c = 61 ↔ c = 61) ∧ (lowB c = 47 ↔ c = 47) ∧ blankB (lowB c) = blankB c ∧ tokI (lowB c).toNat = tokI c.toNat ∧ textI (lowB c).toNat = textI c.toNat := by
  have k := chkS_all ⟨c.toNat, c.toNat_lt⟩
  unfold chkS at k
  simp only [UInt8.ofNat_toNat, Bool.and_eq_true, beq_iff_eq] at k
  obtain ⟨⟨⟨⟨⟨⟨⟨k1, k2⟩, k3⟩, k4⟩, k5⟩, k6⟩, k7⟩, k8⟩ := k
  exact ⟨by rw [← beq_iff_eq, k1, beq_iff_eq], by rw [← beq_iff_eq, k2, beq_iff_eq], by rw [← beq_iff_eq, k3, beq_iff_eq], by rw [← beq_iff_eq, k4, beq_iff_eq], by rw [← beq_iff_eq, k5, beq_iff_eq], k6, k7, k8⟩
/-- a separator that no case touches -/
def CaSep (d : UInt8) : Prop := ∀ c, lowB c = d ↔ c = d
theorem casep59 : CaSep 59 := fun c => (low_chr c).2.2.1
theorem casep61 : CaSep 61 := fun c => (low_chr c).2.2.2.1
theorem casep47 : CaSep 47 := fun c => (low_chr c).2.2.2.2.1
theorem low_app (a b : List UInt8) : lowL (a ++ b) = lowL a ++ lowL b := by unfold lowL; rw [List.map_append]
theorem low_nil {l : List UInt8} : lowL l = [] ↔ l = [] := by unfold lowL; exact List.map_eq_nil_iff
theorem tokL_low (l : List UInt8) : tokL (lowL l) = tokL l := by
  unfold tokL allI
  rw [lowL_map, List.all_map]
  congr 1
  · cases l <;> rfl
  · congr 1; funext c; exact (low_chr c).2.2.2.2.2.2.1
theorem textL_low (l : List UInt8) : textL (lowL l) = textL l := by
  unfold textL allI
  rw [lowL_map, List.all_map]
  congr 1; funext c; exact (low_chr c).2.2.2.2.2.2.2
theorem dropW_low : ∀ l : List UInt8, (lowL l).dropWhile blankB = lowL (l.dropWhile blankB)
  | [] => rfl
  | c :: r => by
    rw [lowL_cons, List.dropWhile_cons, List.dropWhile_cons, (low_chr c).2.2.2.2.2.1]
    split
    · exact dropW_low r
    · rfl
theorem low_rev (l : List UInt8) : (lowL l).reverse = lowL l.reverse := by unfold lowL; rw [List.map_reverse]
theorem trim_low (l : List UInt8) : trimL (lowL l) = lowL (trimL l) := by
  unfold trimL; rw [dropW_low, low_rev, dropW_low, low_rev]
theorem cut1_low {d : UInt8} (hd : CaSep d) : ∀ l : List UInt8, cut1 d (lowL l) = lowL (cut1 d l)
  | [] => rfl
  | c :: r => by
    have ih := cut1_low hd r
    unfold cut1 at ih ⊢
    rw [lowL_cons, List.takeWhile_cons, List.takeWhile_cons]
    by_cases h : c = d
    · have : lowB c = d := (hd c).2 h
      rw [if_neg (by simp [this]), if_neg (by simp [h])]; rfl
    · have : lowB c ≠ d := fun e => h ((hd c).1 e)
      rw [if_pos (by simp [this]), if_pos (by simp [h]), ih]; rfl
theorem cut2_low {d : UInt8} (hd : CaSep d) : ∀ l : List UInt8, cut2 d (lowL l) = lowL (cut2 d l)
  | [] => rfl
  | c :: r => by
    have ih := cut2_low hd r
    unfold cut2 at ih ⊢
    rw [lowL_cons, List.dropWhile_cons, List.dropWhile_cons]
    by_cases h : c = d
    · have : lowB c = d := (hd c).2 h
      rw [if_neg (by simp [this]), if_neg (by simp [h])]; rfl
    · have : lowB c ≠ d := fun e => h ((hd c).1 e)
      rw [if_pos (by simp [this]), if_pos (by simp [h]), ih]
theorem cutB_low {d : UInt8} (hd : CaSep d) (l : List UInt8) : cutB d (lowL l) = cutB d l := by
  unfold cutB
  rw [Bool.eq_iff_iff, List.contains_iff_mem, List.contains_iff_mem, lowL_map, List.mem_map]
  constructor
  · rintro ⟨c, hc, h⟩; rw [← (hd c).1 h]; exact hc
  · intro h; exact ⟨d, h, (hd d).2 rfl⟩
theorem cutF_low {sep : UInt8} (hs : CaSep sep) : ∀ (f : Nat) (q : Bool) (l acc : List UInt8), cutF sep f q (lowL l) (lowL acc) = (cutF sep f q l acc).map lowL
  | f, q, [], acc => by rw [show lowL [] = [] from rfl, cutF_nil, cutF_nil]; rfl
  | 0, q, c :: r, acc => by unfold cutF; rfl
  | f + 1, q, c :: r, acc => by
    obtain ⟨l34, l92, _⟩ := low_chr c
    rw [lowL_cons, cutF_cons, cutF_cons]
    by_cases h1 : q = true ∧ c = 92
    · rw [if_pos ⟨h1.1, l92.2 h1.2⟩, if_pos h1]
      match r with
      | [] => show [lowL acc ++ [lowB c]] = [lowL (acc ++ [c])]; rw [low_app]; rfl
      | d :: r2 =>
        have := cutF_low hs f q r2 (acc ++ [c, d])
        rw [low_app] at this
        exact this
    · rw [if_neg (fun e => h1 ⟨e.1, l92.1 e.2⟩), if_neg h1]
      by_cases h2 : c = 34
      · rw [if_pos (l34.2 h2), if_pos h2]
        have := cutF_low hs f (!q) r (acc ++ [c])
        rw [low_app] at this
        exact this
      · rw [if_neg (fun e => h2 (l34.1 e)), if_neg h2]
        by_cases h3 : c = sep ∧ q = false
        · rw [if_pos ⟨(hs c).2 h3.1, h3.2⟩, if_pos h3]
          have := cutF_low hs f q r []
          rw [List.map_cons, ← this]; rfl
        · rw [if_neg (fun e => h3 ⟨(hs c).1 e.1, e.2⟩), if_neg h3]
          have := cutF_low hs f q r (acc ++ [c])
          rw [low_app] at this
          exact this
theorem cutL_low {sep : UInt8} (hs : CaSep sep) (l : List UInt8) : cutL sep (lowL l) = (cutL sep l).map lowL := by
  unfold cutL
  rw [lowL_len]
  exact cutF_low hs l.length false l []
theorem unesc_low : ∀ (k : Nat) (l : List UInt8), l.length ≤ k → unescL (lowL l) = (unescL l).map lowL
  | k, [], _ => rfl
  | 0, c :: r, h => by simp at h
  | k + 1, c :: r, h => by
    simp only [List.length_cons] at h
    obtain ⟨l34, l92, _⟩ := low_chr c
    rw [lowL_cons]
    by_cases h34 : c = 34
    · rw [l34.2 h34, h34, unescL_q, unescL_q]; rfl
    · by_cases h92 : c = 92
      · rw [l92.2 h92, h92]
        match r, h with
        | [], _ => show unescL [92] = _; rw [unescL_e]; rfl
        | d :: r2, h =>
          simp only [List.length_cons] at h
          rw [lowL_cons, unescL_b, unescL_b, unesc_low k r2 (by omega), Option.map_map, Option.map_map]
          rfl
      · rw [unescL_o _ _ (fun e => h34 (l34.1 e)) (fun e => h92 (l92.1 e)), unescL_o _ _ h34 h92, unesc_low k r (by omega), Option.map_map, Option.map_map]
        rfl
theorem unq_low (l : List UInt8) : unqL (lowL l) = (unqL l).map lowL := by
  have hg : ∀ i, ((lowL l).getD i 0 = 34 ↔ l.getD i 0 = 34) := fun i => by
    rw [lowL_map, List.getD_eq_getElem?_getD, List.getD_eq_getElem?_getD, List.getElem?_map]
    cases h : l[i]? with
    | none => simp
    | some c => simpa using (low_chr c).1
  unfold unqL
  rw [lowL_len]
  by_cases h : l.length < 2 ∨ l.getD 0 0 ≠ 34 ∨ l.getD (l.length - 1) 0 ≠ 34
  · rw [if_pos h, if_pos (by rw [ne_eq, ne_eq, hg, hg]; exact h)]; rfl
  · rw [if_neg h, if_neg (by rw [ne_eq, ne_eq, hg, hg]; exact h)]
    have e : ((lowL l).take (l.length - 1)).drop 1 = lowL ((l.take (l.length - 1)).drop 1) := by unfold lowL; rw [← List.map_take, ← List.map_drop]
    rw [e]
    unfold unqIn
    rw [textL_low]
    split
    · exact unesc_low _ _ (Nat.le_refl _)
    · rfl
def lowP (p : F) : F := (p.1, bs (lowL p.2.data.toList))
theorem param_low (x : List UInt8) : paramL (lowL x) = (paramL x).map lowP := by
  unfold paramL
  rw [cutB_low casep61, cut1_low casep61, cut2_low casep61, tokL_low, tokL_low, low_low, unq_low]
  split
  · rfl
  · split
    · unfold lowP; simp [bs_toList]
    · cases unqL (cut2 61 x) with
      | none => rfl
      | some u => unfold lowP; simp [bs_toList]
theorem parF_low : ∀ (ps : List (List UInt8)) (acc : List F), parF (ps.map lowL) (acc.map lowP) = (parF ps acc).map (List.map lowP)
  | [], acc => rfl
  | p :: ps, acc => by
    rw [List.map_cons]
    unfold parF
    rw [trim_low, param_low]
    by_cases h : trimL p = []
    · rw [if_pos h, if_pos (low_nil.2 h)]; exact parF_low ps acc
    · rw [if_neg h, if_neg (fun e => h (low_nil.1 e))]
      cases hp : paramL (trimL p) with
      | none => rfl
      | some f =>
        have := parF_low ps (acc ++ [f])
        rw [List.map_append] at this
        exact this
theorem parL_low (s : List UInt8) : parL (lowL s) = (parL s).map fun m => (lowL m.1, m.2.map lowP) := by
  unfold parL
  rw [cutL_low casep59]
  cases hc : cutL 59 s with
  | nil => rfl
  | cons v ps =>
    simp only [List.map_cons]
    rw [trim_low]
    by_cases h : trimL v = []
    · rw [if_pos h, if_pos (low_nil.2 h)]; rfl
    · rw [if_neg h, if_neg (fun e => h (low_nil.1 e))]
      have := parF_low ps []
      rw [List.map_nil] at this
      rw [this]
      cases parF ps [] with
      | none => rfl
      | some L => rfl
theorem type_low (v : List UInt8) : typeL (lowL v) = typeL v := by
  unfold typeL
  rw [cutB_low casep47, cut1_low casep47, cut2_low casep47, tokL_low, tokL_low, low_low, low_low]
  split
  · rfl
  · split
    · rfl
    · split
      · rfl
      · have h : (lowL (cut1 47 v) = [42] ∧ lowL (cut2 47 v) ≠ [42]) ↔ (cut1 47 v = [42] ∧ cut2 47 v ≠ [42]) := by rw [star_low, ne_eq, star_low]
        by_cases q : cut1 47 v = [42] ∧ cut2 47 v ≠ [42]
        · rw [if_pos q, if_pos (h.2 q)]
        · rw [if_neg q, if_neg (fun e => q (h.1 e))]
end
section
def plainC (c : UInt8) : Bool := c != 32 && c != 9 && c != 40 && c != 41 && c != 44 && c != 34
/-- how many bytes a quoted string takes behind its first quote, its last quote among them -/
def qE : List UInt8 → Option Nat
  | [] => none
  | [c] => if c = 34 then some 1 else none
  | c :: d :: r => if c = 34 then some 1 else if c = 92 then (qE r).map (· + 2) else (qE (d :: r)).map (· + 1)
theorem qE_esc (d : UInt8) (r : List UInt8) : qE (92 :: d :: r) = (qE r).map (· + 2) := rfl
theorem qE_any {c : UInt8} (r : List UInt8) (h1 : c ≠ 34) (h2 : c ≠ 92) : qE (c :: r) = (qE r).map (· + 1) := by
  cases r with
  | nil => show (if c = 34 then _ else _) = _; rw [if_neg h1]; rfl
  | cons d r => show (if c = 34 then _ else if c = 92 then _ else _) = _; rw [if_neg h1, if_neg h2]
/-- the steps, by places: within a quoted string -/
theorem q_any {l : List UInt8} {i : Nat} (hi : i < l.length) (h1 : l[i] ≠ 34) (h2 : l[i] ≠ 92) : qE (l.drop i) = (qE (l.drop (i + 1))).map (· + 1) := by
  rw [List.drop_eq_getElem_cons hi]; exact qE_any _ h1 h2
theorem q_esc {l : List UInt8} {i : Nat} (hi : i < l.length) (h : l[i] = 92) : qE (l.drop i) = (qE (l.drop (i + 2))).map (· + 2) := by
  rw [List.drop_eq_getElem_cons hi, h]
  by_cases h2 : i + 1 < l.length
  · rw [List.drop_eq_getElem_cons h2, qE_esc]
  · rw [List.drop_of_length_le (i := i + 1) (by omega), List.drop_of_length_le (i := i + 2) (by omega)]; rfl
theorem q_end {l : List UInt8} {i : Nat} (hi : l.length ≤ i) : qE (l.drop i) = none := by rw [List.drop_of_length_le hi]; rfl
def QAt (l : List UInt8) (f i : Nat) : Prop := qE (l.drop f) = (qE (l.drop i)).map (· + (i - f))
theorem QAt.start (l : List UInt8) (f : Nat) : QAt l f f := by unfold QAt; simp
theorem QAt.any {l : List UInt8} {f i : Nat} (h : QAt l f i) (hf : f ≤ i) (hi : i < l.length) (h1 : l[i] ≠ 34) (h2 : l[i] ≠ 92) : QAt l f (i + 1) := by
  unfold QAt at h ⊢
  rw [h, q_any hi h1 h2, Option.map_map]
  congr 1
  funext x
  show x + 1 + (i - f) = x + (i + 1 - f)
  omega
theorem QAt.esc {l : List UInt8} {f i : Nat} (h : QAt l f i) (hf : f ≤ i) (hi : i < l.length) (h1 : l[i] = 92) : QAt l f (i + 2) := by
  unfold QAt at h ⊢
  rw [h, q_esc hi h1, Option.map_map]
  congr 1
  funext x
  show x + 2 + (i - f) = x + (i + 2 - f)
  omega
theorem QAt.fin {l : List UInt8} {f i : Nat} (h : QAt l f i) (hi : l.length ≤ i) : qE (l.drop f) = none := by
  unfold QAt at h
  rw [h, q_end hi]; rfl
/-- .. in a run of plain bytes -/
def PAt (l : List UInt8) (f i : Nat) : Prop := (l.drop f).takeWhile plainC = (l.drop f).take (i - f) ++ (l.drop i).takeWhile plainC
theorem PAt.start (l : List UInt8) (f : Nat) : PAt l f f := by unfold PAt; simp
theorem PAt.step {l : List UInt8} {f i : Nat} (h : PAt l f i) (hf : f ≤ i) (hi : i < l.length) (hp : plainC l[i] = true) : PAt l f (i + 1) := by
  unfold PAt at h ⊢
  rw [h, List.drop_eq_getElem_cons hi, List.takeWhile_cons_of_pos hp]
  have e : (l.drop f).take (i + 1 - f) = (l.drop f).take (i - f) ++ [l[i]] := by
    have hlt : i - f < (l.drop f).length := by rw [List.length_drop]; omega
    rw [show i + 1 - f = i - f + 1 from by omega, List.take_succ_eq_append_getElem hlt]
    congr 2
    rw [List.getElem_drop]
    congr 1; omega
  rw [e, List.append_assoc]; rfl
end
section
def wordW (v : List UInt8) : List UInt8 := if (visL v && v.all plainC) = true then v else quoteL v
def joinW : List (List UInt8) → List UInt8
  | [] => []
  | x :: r => wordW x ++ r.flatMap fun y => 32 :: wordW y
def writL (V : List (List UInt8)) : List UInt8 := 40 :: (joinW V ++ [41])
def axisL (x : AX) : List UInt8 := x.1.data.toList ++ 61 :: writL (x.2.map fun v => v.data.toList)
def axesB (L : List AX) : ByteArray := joinB (L.map fun x => bs (axisL x))
theorem word_len (v : List UInt8) : (wordW v).length ≤ 2 * v.length + 2 := by
  unfold wordW
  split
  · omega
  · unfold quoteL
    have := escL_len v
    rw [List.length_cons, List.length_append]; simp only [List.length_cons, List.length_nil]; omega
theorem joinW_more {V : List (List UInt8)} {k : Nat} (h : k < V.length) : joinW (V.take (k + 1)) = (if k = 0 then [] else joinW (V.take k) ++ [32]) ++ wordW V[k] := by
  cases V with
  | nil => simp at h
  | cons x r =>
    cases k with
    | zero => simp [joinW]
    | succ k =>
      have hk : k < r.length := by simpa using h
      rw [if_neg (by omega), List.take_succ_cons, List.take_succ_cons, List.getElem_cons_succ]
      show wordW x ++ (r.take (k + 1)).flatMap _ = (wordW x ++ (r.take k).flatMap _ ++ [32]) ++ wordW r[k]
      rw [take_next hk, List.flatMap_append]
      simp
theorem joinW_len {V : List (List UInt8)} {n : Nat} (hz : ∀ v ∈ V, v.length ≤ n) : ∀ k, (joinW (V.take k)).length ≤ k * (2 * n + 3)
  | 0 => by simp [joinW]
  | k + 1 => by
    have ih := joinW_len hz k
    by_cases h : k < V.length
    · rw [joinW_more h, List.length_append]
      have h1 := word_len V[k]
      have h2 := hz V[k] (List.getElem_mem h)
      have h3 : (if k = 0 then ([] : List UInt8) else joinW (V.take k) ++ [32]).length ≤ k * (2 * n + 3) + 1 := by
        split
        · simp
        · rw [List.length_append]; simp only [List.length_cons, List.length_nil]; omega
      rw [Nat.add_mul]; omega
    · rw [List.take_of_length_le (by omega)]
      rw [List.take_of_length_le (by omega)] at ih
      rw [Nat.add_mul]; omega
def fitA (x : AX) : Prop := x.1.size ≤ 1000 ∧ x.2.length ≤ 20 ∧ ∀ v ∈ x.2, v.size ≤ 1000
theorem writ_len {V : List ByteArray} (h1 : V.length ≤ 20) (h2 : ∀ v ∈ V, v.size ≤ 1000) : (writL (V.map fun v => v.data.toList)).length ≤ 41000 := by
  have := joinW_len (V := V.map fun v => v.data.toList) (n := 1000) (fun v hv => by
    obtain ⟨y, hy, rfl⟩ := List.mem_map.1 hv
    have := h2 y hy
    simpa using this) V.length
  rw [List.take_of_length_le (by simp)] at this
  unfold writL
  rw [List.length_cons, List.length_append]
  simp only [List.length_cons, List.length_nil]
  have : V.length * (2 * 1000 + 3) ≤ 20 * 2003 := Nat.mul_le_mul h1 (by omega)
  omega
end
section
/-- outside quoted strings (0), within one (1), behind a backslash within one (2) -/
def stepQ (s : Nat) (c : UInt8) : Nat := if s = 0 then (if c = 34 then 1 else 0) else if s = 1 then (if c = 34 then 0 else if c = 92 then 2 else 1) else 1
def pcF (sep : UInt8) : Nat → List UInt8 → List UInt8 → List UInt8 × List UInt8 × Bool
  | _, [], acc => (acc, [], false)
  | s, c :: r, acc => if s = 0 ∧ c = sep then (acc, r, true) else pcF sep (stepQ s c) r (acc ++ [c])
def pcL (sep : UInt8) (l : List UInt8) : List UInt8 × List UInt8 × Bool := pcF sep 0 l []
def moreL (sep : UInt8) (m : Bool) (l : List UInt8) : List (List UInt8) := if m then cutL sep l else []
theorem pcF_cons (sep : UInt8) (s : Nat) (c : UInt8) (r acc : List UInt8) : pcF sep s (c :: r) acc = if s = 0 ∧ c = sep then (acc, r, true) else pcF sep (stepQ s c) r (acc ++ [c]) := rfl
def qS (q : Bool) : Nat := if q = true then 1 else 0
theorem cut_pc {sep : UInt8} (hs : sep ≠ 34) : ∀ (f : Nat) (q : Bool) (l acc : List UInt8), l.length ≤ f → cutF sep f q l acc = (pcF sep (qS q) l acc).1 :: moreL sep (pcF sep (qS q) l acc).2.2 (pcF sep (qS q) l acc).2.1
  | f, q, [], acc, _ => by rw [cutF_nil]; rfl
  | 0, q, c :: r, acc, h => by simp at h
  | f + 1, q, c :: r, acc, h => by
    simp only [List.length_cons] at h
    rw [cutF_cons, pcF_cons]
    by_cases h1 : q = true ∧ c = 92
    · obtain ⟨rfl, rfl⟩ := h1
      rw [if_pos ⟨rfl, rfl⟩, if_neg (fun h => absurd h.1 (by decide))]
      match r, h with
      | [], h => rfl
      | d :: r2, h =>
        simp only [List.length_cons] at h
        simp only
        rw [cut_pc hs f true r2 _ (by omega), pcF_cons, if_neg (fun h => absurd h.1 (by decide)), List.append_assoc]
        rfl
    · rw [if_neg h1]
      by_cases h2 : c = 34
      · subst h2
        rw [if_pos rfl, if_neg (fun h => hs h.2.symm), cut_pc hs f (!q) r _ (by omega)]
        cases q <;> rfl
      · rw [if_neg h2]
        by_cases h3 : c = sep ∧ q = false
        · obtain ⟨rfl, rfl⟩ := h3
          rw [if_pos ⟨rfl, rfl⟩, if_pos ⟨rfl, rfl⟩]
          show acc :: cutF c f false r [] = acc :: cutF c r.length false r []
          rw [cutF_fuel f r.length false r [] (by omega) (Nat.le_refl _)]
        · rw [if_neg h3]
          have e : stepQ (qS q) c = qS q := by
            unfold stepQ
            cases q
            · show (if (0 : Nat) = 0 then _ else _) = _
              rw [if_pos rfl, if_neg h2]; rfl
            · show (if (1 : Nat) = 0 then _ else if (1 : Nat) = 1 then _ else _) = _
              rw [if_neg (by decide), if_pos rfl, if_neg h2, if_neg (fun h => h1 ⟨rfl, h⟩)]; rfl
          have n : ¬ (qS q = 0 ∧ c = sep) := by
            rintro ⟨h5, h6⟩
            cases q
            · exact h3 ⟨h6, rfl⟩
            · exact absurd h5 (by decide)
          rw [if_neg n, e, cut_pc hs f q r _ (by omega)]
theorem cutL_pc {sep : UInt8} (hs : sep ≠ 34) (l : List UInt8) : cutL sep l = (pcL sep l).1 :: moreL sep (pcL sep l).2.2 (pcL sep l).2.1 := cut_pc hs l.length false l [] (Nat.le_refl _)
/-- the steps, by places -/
def pcAt (sep : UInt8) (s : Nat) (l : List UInt8) (k : Nat) : List UInt8 × List UInt8 × Bool := pcF sep s (l.drop k) (l.take k)
theorem pc_start (sep : UInt8) (l : List UInt8) : pcL sep l = pcAt sep 0 l 0 := by unfold pcL pcAt; simp
theorem pc_end {sep : UInt8} {s : Nat} {l : List UInt8} {k : Nat} (h : l.length ≤ k) : pcAt sep s l k = (l, [], false) := by
  unfold pcAt; rw [List.drop_of_length_le h, List.take_of_length_le h]; rfl
theorem pc_sep {sep : UInt8} {l : List UInt8} {k : Nat} (hk : k < l.length) (h : l[k] = sep) : pcAt sep 0 l k = (l.take k, l.drop (k + 1), true) := by
  unfold pcAt; rw [List.drop_eq_getElem_cons hk, pcF_cons, if_pos ⟨rfl, h⟩]
theorem pc_step {sep : UInt8} {s : Nat} {l : List UInt8} {k : Nat} (hk : k < l.length) (h : ¬ (s = 0 ∧ l[k] = sep)) : pcAt sep s l k = pcAt sep (stepQ s l[k]) l (k + 1) := by
  unfold pcAt
  rw [List.drop_eq_getElem_cons hk, pcF_cons, if_neg h, List.take_add_one, List.getElem?_eq_getElem hk]; rfl
theorem stepQ_le (s : Nat) (c : UInt8) : stepQ s c ≤ 2 := by unfold stepQ; repeat' split <;> try omega
/-- sizes -/
theorem pcF_size (sep : UInt8) : ∀ (l : List UInt8) (s : Nat) (acc : List UInt8), (pcF sep s l acc).1.length + (pcF sep s l acc).2.1.length ≤ acc.length + l.length ∧ ((pcF sep s l acc).2.2 = true → (pcF sep s l acc).2.1.length < l.length)
  | [], s, acc => ⟨by simp [pcF], fun h => by simp [pcF] at h⟩
  | c :: r, s, acc => by
    rw [pcF_cons]
    split
    · refine ⟨by simp only [List.length_cons]; omega, fun _ => by simp⟩
    · obtain ⟨h1, h2⟩ := pcF_size sep r (stepQ s c) (acc ++ [c])
      simp only [List.length_append, List.length_cons, List.length_nil] at h1 ⊢
      exact ⟨by omega, fun h => by have := h2 h; omega⟩
/-- the members of a value behind others, as long as there is room -/
def addL (A : List (List UInt8)) (ps : List (List UInt8)) : List (List UInt8) := (A ++ memL ps).take 64
theorem addL_nil {A : List (List UInt8)} (h : A.length ≤ 64) : addL A [] = A := by unfold addL memL; simp [List.take_of_length_le h]
theorem addL_full {A ps : List (List UInt8)} (h : A.length = 64) : addL A ps = A := by
  unfold addL; rw [List.take_append_of_le_length (by omega), List.take_of_length_le (by omega)]
theorem memL_cons (p : List UInt8) (ps : List (List UInt8)) : memL (p :: ps) = (if trimL p = [] then [] else [trimL p]) ++ memL ps := by
  rw [show p :: ps = [p] ++ ps from rfl, memL_append]
  congr 1
  split
  · rename_i e; unfold memL; simp [e]
  · rename_i e; exact memL_one e
theorem addL_blank {A ps : List (List UInt8)} {p : List UInt8} (h : trimL p = []) : addL A (p :: ps) = addL A ps := by unfold addL; rw [memL_cons, if_pos h, List.nil_append]
theorem addL_more {A ps : List (List UInt8)} {p : List UInt8} (h : trimL p ≠ []) : addL A (p :: ps) = addL (A ++ [trimL p]) ps := by unfold addL; rw [memL_cons, if_neg h, List.append_assoc]
theorem addL_all {vs : List ByteArray} {k : Nat} (h : k < vs.length) : (allF (vs.take (k + 1))).take 64 = addL ((allF (vs.take k)).take 64) (cutL 44 vs[k].data.toList) := by
  rw [allF_more h]
  unfold addL splitL
  generalize (allF (vs.take k)).take 64 = X
  rw [List.take_append, List.take_append, List.take_take]
  congr 2
  omega
end
section
/-- the value that a piece stands for -/
def readV (t : List UInt8) : Option (List UInt8) := if (t.all plainC) = true then some t else unqL t
/-- what is unquoted is a quote, an inside and a quote -/
theorem unq_parts {l u : List UInt8} (h : unqL l = some u) : ∃ m, l = 34 :: (m ++ [34]) ∧ textL m = true ∧ unescL m = some u := by
  unfold unqL at h
  split at h
  · cases h
  · rename_i hc
    have h2 : ¬ l.length < 2 := fun e => hc (.inl e)
    have h0 : l.getD 0 0 = 34 := Classical.byContradiction fun e => hc (.inr (.inl e))
    have h1 : l.getD (l.length - 1) 0 = 34 := Classical.byContradiction fun e => hc (.inr (.inr e))
    refine ⟨(l.take (l.length - 1)).drop 1, ?_, ?_, ?_⟩
    · match l, h2, h0, h1 with
      | c :: r, h2, h0, h1 =>
        simp only [List.length_cons] at h2
        have hc0 : c = 34 := by simpa using h0
        subst hc0
        have hr : r ≠ [] := by intro e; subst e; simp at h2
        have e1 : (34 :: r).length - 1 = (r.length - 1) + 1 := by simp only [List.length_cons]; omega
        rw [e1] at h1 ⊢
        rw [List.take_succ_cons, List.drop_succ_cons, List.drop_zero]
        congr 1
        have hl : r[r.length - 1]'(by omega) = 34 := by
          rw [List.getD_eq_getElem?_getD, List.getElem?_cons_succ, List.getElem?_eq_getElem (by omega)] at h1
          simpa using h1
        have := List.dropLast_concat_getLast hr
        rw [List.getLast_eq_getElem, hl, List.dropLast_eq_take] at this
        exact this.symm
      | [], h2, _, _ => simp at h2
    · unfold unqIn at h; split at h
      · assumption
      · cases h
    · unfold unqIn at h; split at h
      · exact h
      · cases h
theorem plain_ne {c : UInt8} (h : plainC c = true) : c ≠ 34 ∧ c ≠ 32 ∧ c ≠ 44 ∧ c ≠ 40 ∧ c ≠ 41 ∧ c ≠ 9 := by
  unfold plainC at h
  simp only [Bool.and_eq_true, bne_iff_ne] at h
  obtain ⟨⟨⟨⟨⟨h1, h2⟩, h3⟩, h4⟩, h5⟩, h6⟩ := h
  exact ⟨h6, h1, h5, h3, h4, h2⟩
theorem read_quo (r : List UInt8) : readV (34 :: r) = unqL (34 :: r) := by
  unfold readV
  have : (34 :: r).all plainC = false := by rw [List.all_eq_false]; exact ⟨34, by simp, by decide⟩
  rw [this]; rfl
end
section
open Go.RowKit
theorem bld_info : ∃ j, Tryz.prog.info? 61 = some j ∧ j.size = 2 := by
  obtain ⟨j, h1, h2⟩ := Option.map_eq_some_iff.1 (show (Tryz.prog.info? 61).map (·.size) = some 2 by kernel_rfl)
  exact ⟨j, h1, h2⟩
theorem bld_lies : liesAt Tryz.prog Tryz.prog.depth 61 (2 / Tryz.prog.cellsOf 61) 0 61 1 = true := by kernel_rfl
/-- the builder of block b: not yet written, or in use; its bytes l -/
def BldAt (w : World) (B b : Nat) (p : Value) (l : List UInt8) : Prop := Lib.BuilderAt 61 5 B b p (Lib.byteCells l) w
def Bld (w : World) (B b : Nat) (l : List UInt8) : Prop := BldAt w B b (.pointer none) l ∨ BldAt w B b (.pointer (some ⟨b, 0, none⟩)) l
theorem check_used (b : Nat) (w : World) (h0 : w.cell? ⟨b, 0, none⟩ = some (.pointer (some ⟨b, 0, none⟩))) :
    Calls Tryz.prog 69 #[.pointer (some ⟨b, 0, none⟩)] w fun e w' => e = .returned (.tuple #[]) ∧ w' = w := by
  obtain ⟨j, hj, hjs⟩ := bld_info
  go_enter Tryz.func69, Tryz.ntmps69
  go_wp2
  rw [Lib.run_neq_ptr_same w _ Tryz.underlying58 hj]
  go_wp2
  go_end0
  exact ⟨rfl, rfl⟩
theorem check_new (b : Nat) (w : World) (h0 : w.cell? ⟨b, 0, none⟩ = some (.pointer none)) (hsh : w.shape? b = some (61, 2)) (hf : w.frozen? ⟨b, 0, none⟩ = false) :
    Calls Tryz.prog 69 #[.pointer (some ⟨b, 0, none⟩)] w fun e w' => e = .returned (.tuple #[]) ∧ w' = w.setCell ⟨b, 0, none⟩ (.pointer (some ⟨b, 0, none⟩)) := by
  obtain ⟨j, hj, hjs⟩ := bld_info
  have hj0 : j.size ≠ 0 := by omega
  go_enter Tryz.func69, Tryz.ntmps69
  go_wp2
  rw [Lib.run_to_unsafe w ⟨b, 0, none⟩ Tryz.underlying58 Tryz.underlying120 hj hj0 hsh (Nat.zero_lt_succ 1)]
  simp only [Result.andThen]
  rw [Oper.upon_value]
  go_wp2
  rw [run_callFunc_extern Tryz.func102 (by kernel_rfl) (by kernel_rfl) (by kernel_rfl) (e := Extern.AbiNoEscape.same) (by kernel_rfl), Lib.run_noEscape]
  simp only [Result.andThen]
  rw [Oper.upon_value]
  go_wp2
  rw [Lib.run_from_unsafe w ⟨b, 0, none⟩ Tryz.underlying120 Tryz.underlying58 hj hsh bld_lies]
  simp only [Result.andThen]
  rw [Oper.upon_value]
  go_wp2
  go_end0
  exact ⟨rfl, rfl⟩
/-- behind copyCheck the builder is in use -/
theorem check_any (B b : Nat) (l : List UInt8) (w : World) (h : Bld w B b l) :
    Calls Tryz.prog 69 #[.pointer (some ⟨b, 0, none⟩)] w fun e w' => e = .returned (.tuple #[]) ∧ BldAt w' B b (.pointer (some ⟨b, 0, none⟩)) l ∧ Below B w w' := by
  rcases h with h | h
  · refine (check_new b w h.cell0 h.shape h.frozen0).mono ?_
    rintro e w' ⟨rfl, rfl⟩
    exact ⟨rfl, h.used _, (Below.refl B w).setCell (p := ⟨b, 0, none⟩) h.1 _⟩
  · refine (check_used b w h.cell0).mono ?_
    rintro e w' ⟨rfl, rfl⟩
    exact ⟨rfl, h, Below.refl B _⟩
theorem blk_lt {w : World} {b : Nat} {o : Obj} (h : w.heap[b]? = some o) : b < w.heap.size := by
  rcases Nat.lt_or_ge b w.heap.size with q | q
  · exact q
  · rw [Array.getElem?_eq_none q] at h; cases h
set_option maxHeartbeats 4000000 in
/-- grow, at a builder in use that has no buffer yet -/
theorem grow_new (B b n : Nat) (w : World) (hB : B ≤ b) (hb : w.heap[b]? = some (.cells #[.pointer (some ⟨b, 0, none⟩), .slice none 0 0] 61 (0, 0))) (hBw : B ≤ w.heap.size) (hn : n ≤ 281474976710656) :
    Calls Tryz.prog 132 #[.pointer (some ⟨b, 0, none⟩), .int .i64 n] w fun e w' => e = .returned (.tuple #[]) ∧ BldAt w' B b (.pointer (some ⟨b, 0, none⟩)) [] ∧ Below B w w' := by
  obtain ⟨cs, hrun, hle, hmax⟩ := Lib.run_makeNoZero (P := Tryz.prog) w.drew #[3] 59 5 Tryz.underlying59 n hn
  have hlt := blk_lt hb
  have hw : IntKind.i64.wrap (IntKind.i64.wrap 0 + (n : Int)) = n := by rw [IntKind.wrap_i64, IntKind.wrap_i64]; omega
  have hcall : (callFunc 158 #[.int .i64 (IntKind.i64.wrap (IntKind.i64.wrap 0 + (n : Int)))]).run Tryz.prog w.drew = .ok (.value (.slice (some ⟨w.drew.heap.size, 0, none⟩) n cs.size)) (w.drew.drew.drew.alloc (.cells cs 5)) := by
    rw [hw, run_callFunc_extern Tryz.func158 (by kernel_rfl) (by kernel_rfl) (by kernel_rfl) (e := Extern.BytealgMakeNoZero.makeNoZero #[3] #[59]) (by kernel_rfl), hrun]
    rfl
  have c1 : w.drew.cell? ⟨b, 1, none⟩ = some (.slice none 0 0) := by
    rw [Lib.cell_of_heap (w := w.drew) hb]; rfl
  have hb2 : (w.alloc (.cells cs 5)).heap[b]? = _ := (Lib.alloc_old w _ b hlt).trans hb
  have c2 : (w.alloc (.cells cs 5)).cell? ⟨b, 1, none⟩ = some (.slice none 0 0) := by rw [Lib.cell_of_heap hb2]; rfl
  have f2 : (w.alloc (.cells cs 5)).frozen? ⟨b, 1, none⟩ = false := Lib.frozen_of_heap hb2 1
  have hcopy : ∀ W : World, (Builtin.copy_ #[59, 59] 3 #[.slice (some ⟨w.heap.size, 0, none⟩) 0 cs.size, .slice none 0 0]).run Tryz.prog W = .ok (goInt 0) W :=
    fun W => run_copy_none W 59 59 3 5 _ _ 0 cs.size 0 0 Tryz.underlying59 (by kernel_rfl) rfl
  have hfin := Lib.grown_fresh (T := 61) (e := 5) (cs := cs) hB hb hBw (hmax (by unfold maxLen; omega)) (by decide)
  rw [World.setCell_alloc_past _ _ _ _ hlt] at hfin
  have HF := box hfin
  clear hw hb2 hfin
  go_enter Tryz.func132, Tryz.ntmps132
  go_wp2
  go_region_held3 (fun w' => w'.cell? ⟨b, 1, none⟩ = some (.slice none 0 0)) (first | exact c1 | exact c2) (fail)
  go_wp2
  go_end0
  exact ⟨rfl, HF.out⟩
/-- Grow, at a builder that has not been written -/
theorem Grow_new (B b n : Nat) (w : World) (hB : B ≤ b) (hb : w.heap[b]? = some (.cells #[.pointer none, .slice none 0 0] 61 (0, 0))) (hBw : B ≤ w.heap.size) (hn : n ≤ 281474976710656) :
    Calls Tryz.prog 106 #[.pointer (some ⟨b, 0, none⟩), .int .i64 n] w fun e w' => e = .returned (.tuple #[]) ∧ BldAt w' B b (.pointer (some ⟨b, 0, none⟩)) [] ∧ Below B w w' := by
  obtain ⟨w1, hw1⟩ : ∃ w1, w.setCell ⟨b, 0, none⟩ (.pointer (some ⟨b, 0, none⟩)) = w1 := ⟨_, rfl⟩
  have hb1 : w1.heap[b]? = some (.cells #[.pointer (some ⟨b, 0, none⟩), .slice none 0 0] 61 (0, 0)) := by
    rw [← hw1]; simp [World.setCell, Array.getElem?_modify, hb]
  have HB1 : Box (Below B w w1) := box (by rw [← hw1]; exact (Below.refl B w).setCell (p := ⟨b, 0, none⟩) hB _)
  have hBw1 : B ≤ w1.heap.size := Nat.le_trans hBw HB1.out.size
  have hA1 : BldAt w1 B b (.pointer (some ⟨b, 0, none⟩)) [] := ⟨hB, .slice none 0 0, hb1, World.ownsRow_nil _ _ _ _, by simp [Value.ownBlock]⟩
  have A1 := box hA1
  have c1 : w1.cell? ⟨b, 1, none⟩ = some (.slice none 0 0) := by rw [Lib.cell_of_heap hb1]; rfl
  have h0 : w.cell? ⟨b, 0, none⟩ = some (.pointer none) := by rw [Lib.cell_of_heap hb]; rfl
  have h1 : w.shape? b = some (61, 2) := by simp [World.shape?, hb]
  have h2 : w.frozen? ⟨b, 0, none⟩ = false := Lib.frozen_of_heap hb 0
  have H := box h1
  have HB := box hb1
  clear h1 hb hA1 hb1
  go_enter Tryz.func106, Tryz.ntmps106
  go_wp2_with fail
  refine (check_new b w h0 H.out h2).mono ?_; rintro e w2 ⟨rfl, rfl⟩
  rw [hw1]
  clear h0 h2 hw1
  by_cases hn0 : n = 0
  · subst hn0
    go_wp2
    go_quiet (fail)
    go_wp2
    go_end0
    exact ⟨rfl, A1.out, HB1.out.trans (Below.mono (below_drewN _ _) hBw1)⟩
  · have hp : (0 : Int) < (n : Int) := by omega
    go_wp2
    go_quiet (fail)
    go_wp2_with fail
    refine (grow_new B b n (w1.drewN _) hB HB.out hBw1 hn).mono ?_; rintro e w3 ⟨rfl, hA, hb3⟩
    have A3 := box hA
    have B3 := box (HB1.out.trans ((Below.mono (below_drewN _ _) hBw1).trans hb3))
    clear hA hb3
    go_wp2
    go_end0
    exact ⟨rfl, A3.out, B3.out⟩
/-- WriteString: the string's bytes behind those that are there -/
theorem WriteString_any (B b : Nat) (l : List UInt8) (s : ByteArray) (w : World) (h : Box (Bld w B b l)) (hl : l.length + s.size ≤ 140737488355328) (hBw : B ≤ w.heap.size) :
    Calls Tryz.prog 35 #[.pointer (some ⟨b, 0, none⟩), .string s] w fun e w' => e = .returned (.tuple #[.int .i64 s.size, .nilIface]) ∧ BldAt w' B b (.pointer (some ⟨b, 0, none⟩)) (l ++ s.data.toList) ∧ Below B w w' := by
  obtain ⟨i0, hi0, hz0, hz1, hz2⟩ := info_parts info_u8
  go_enter Tryz.func35, Tryz.ntmps35
  go_wp2_with fail
  refine (check_any B b l _ h.out).mono ?_; rintro e w1 ⟨rfl, hA, hb1⟩
  obtain ⟨hB, v, hbk, hown, hne⟩ := hA
  have c0 : w1.cell? ⟨b, 0, none⟩ = some (.pointer (some ⟨b, 0, none⟩)) := by rw [Lib.cell_of_heap hbk]; rfl
  have c1 : w1.cell? ⟨b, 1, none⟩ = some v := by rw [Lib.cell_of_heap hbk]; rfl
  have hbw := hb1.size
  have B1 := box hb1
  have H1 := box hown
  have HN := box hne
  have HK := box hbk
  have hll : (Lib.byteCells l).length = l.length := Lib.byteCells_length l
  have hlt := blk_lt hbk
  clear hb1 hown hne hbk
  go_wp2_with (at_builtin; refine Lib.wpList_append_own_string _ rfl _ _ 59 9 rfl B 5 i0 Tryz.underlying59 Tryz.underlying9 hi0 hz0 hz1 hz2 _ _ _ rfl H1.out s rfl ?c3 ?c4 ?c5 ?_)
  case c3 => unfold maxLen; omega
  case c4 => omega
  case c5 => omega
  intro v' w2 hown' hgrow _
  have hb2 : w2.heap[b]? = some (.cells #[.pointer (some ⟨b, 0, none⟩), v] 61 (0, 0)) := by
    rw [hgrow.block b hlt (fun e => HN.out e.symm)]
    exact HK.out
  have d1 : w2.cell? ⟨b, 1, none⟩ = some v := by rw [Lib.cell_of_heap hb2]; rfl
  have f1 : w2.frozen? ⟨b, 1, none⟩ = false := Lib.frozen_of_heap hb2 1
  have A2 : Box (BldAt (w2.setCell ⟨b, 1, none⟩ v') B b (.pointer (some ⟨b, 0, none⟩)) (l ++ s.data.toList)) := box
    (Lib.BuilderAt.put (T := 61) (e := 5) hB hb2 (bs' := Lib.byteCells (l ++ s.data.toList)) (by
      rw [Lib.byteCells_append, List.length_append, ← Lib.strCells_eq, Lib.strCells_length, hll]; exact hown') (by decide))
  have B2 : Box (Below B w (w2.setCell ⟨b, 1, none⟩ v')) := box ((B1.out.grown hgrow (by omega) (fun k hk => (H1.out.lt k hk).1)).setCell (p := ⟨b, 1, none⟩) hB _)
  obtain ⟨ax, nx, cx, rfl⟩ : ∃ a n c, v' = .slice a n c := by
    rcases hown'.2 with ⟨hv, _⟩ | ⟨g, cap, cur, hv, _⟩
    · exact ⟨_, _, _, hv⟩
    · exact ⟨_, _, _, hv⟩
  clear hown' hgrow hb2
  go_wp2
  go_ret2
  exact ⟨rfl, A2.out, B2.out⟩
theorem String_some (B b g cap : Nat) (p : Value) (l : List UInt8) (cur : Array Value) (w : World) (hb : w.heap[b]? = some (.cells #[p, .slice (some ⟨g, 0, none⟩) l.length cap] 61 (0, 0))) (hBg : B ≤ g) (hg : w.heap[g]? = some (.cells cur 5 (0, 0))) (h0 : l ≠ []) (hlc : l.length ≤ cap) (hcap : cap ≤ maxLen) (hcs : cur.size = cap)
    (hc : ∀ j x, l[j]? = some x → w.cell? ((⟨g, 0, none⟩ : Addr).add j) = some (.int .u8 (x.toNat : Int))) :
    Calls Tryz.prog 38 #[.pointer (some ⟨b, 0, none⟩)] w fun e w' => e = .returned (.string ⟨l.toArray⟩) ∧ Below B w w' := by
  have hl0 : l.length ≠ 0 := by simpa using h0
  have c1 : w.drew.cell? ⟨b, 1, none⟩ = some (.slice (some ⟨g, 0, none⟩) l.length cap) := by rw [Lib.cell_of_heap (w := w.drew) hb]; rfl
  have hSD : (Builtin.unsafeSliceData_ #[59] 95 #[.slice (some ⟨g, 0, none⟩) l.length cap]).run Tryz.prog w.drew = .ok (.pointer (some ⟨g, 0, none⟩)) w.drew :=
    Lib.run_unsafeSliceData_row _ _ _ _ _ _ (by omega)
  have hUS : (Builtin.unsafeString_ #[95, 3] 9 #[.pointer (some ⟨g, 0, none⟩), .int .i64 l.length]).run Tryz.prog w.drew = .ok (.string ⟨l.toArray⟩) (w.drew.freeze ⟨g, 0, none⟩ l.length) :=
    Lib.run_unsafeString_row w.drew 95 3 9 5 Tryz.underlying95 (by kernel_rfl) g cur.size (by simp [World.shape?, show w.drew.heap[g]? = _ from hg]) l h0 (by omega) (by unfold maxLen at hcap; omega) hc
  have HB : Box (Below B w (w.drew.freeze ⟨g, 0, none⟩ l.length)) := box (Lib.below_freeze (Below.drew (Below.refl B w)) (p := ⟨g, 0, none⟩) hBg _)
  clear hc hb hg hcap
  go_enter Tryz.func38, Tryz.ntmps38
  go_wp2
  go_region
  all_goals (go_wp2; go_ret; exact ⟨rfl, HB.out⟩)
/-- String, at a builder that holds bytes; what they lie in is closed to later stores -/
theorem String_any (B b : Nat) (l : List UInt8) (w : World) (h : Box (Bld w B b l)) (h0 : l ≠ []) :
    Calls Tryz.prog 38 #[.pointer (some ⟨b, 0, none⟩)] w fun e w' => e = .returned (.string ⟨l.toArray⟩) ∧ Below B w w' := by
  obtain ⟨p, hB, v, hbk, hown, hne⟩ : ∃ p, BldAt w B b p l := by
    rcases h.out with q | q
    · exact ⟨_, q⟩
    · exact ⟨_, q⟩
  rw [Lib.byteCells_length] at hown
  rcases hown.2 with ⟨_, hz⟩ | ⟨g, cap, cur, rfl, hbg, hg, hnc, hcm, hcs, htk⟩
  · exact absurd (by simpa using hz) h0
  · refine String_some B b g cap p l cur w hbk hbg hg h0 hnc hcm (by omega) (fun j x hx => ?_)
    exact hown.cells (g := g) rfl j (.int .u8 x.toNat) (by simp [Lib.byteCells, hx])
end
end Go.Proofs.YtklfpkaemnhdhaaGreatDoor.Asc
