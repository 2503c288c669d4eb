/- Merged texts: VarRef7 AccSpec4 VarSpec7 KeySpec RnkSpec SelSpec SelRank SelSpec3 ClsSpec ClsSpec2. -/
import Derived.Test.YtklfpkaemnhdhaaGreatDoorZa01
import Derived.Test.YtklfpkaemnhdhaaGreatDoorZa02
import Derived.Test.YtklfpkaemnhdhaaGreatDoorZa05
import Derived.Test.YtklfpkaemnhdhaaGreatDoorZa06
import Derived.Test.YtklfpkaemnhdhaaGreatDoorZa07
import Derived.Test.YtklfpkaemnhdhaaGreatDoorZa08
import Derived.Test.YtklfpkaemnhdhaaGreatDoorZa09
set_option linter.unusedVariables false
set_option linter.unusedSimpArgs false
set_option maxRecDepth 100000
namespace Go.Proofs.YtklfpkaemnhdhaaGreatDoor.Asc
section
open Go.RowKit
theorem OwnAx.le {w : World} {B B' : Nat} {v : Value} {L : List AX} (h : OwnAx w B v L) (hB : B' ≤ B) : OwnAx w B' v L := by
  obtain ⟨cs, h1, h2⟩ := h
  exact ⟨cs, Go.Joins.ownsRow_le h1 hB, h2.1, h2.2.1, fun i hi => by obtain ⟨q1, u, q2, q3⟩ := h2.2.2 i hi; exact ⟨q1, u, q2, Go.Joins.ownsRow_le q3 hB⟩⟩
end
section
theorem atQ_before : ∀ {L : List F} {j : Nat} (hj : j < L.length), j < atQ L → isQ L[j] = false
  | p :: L, j, hj, h => by
    unfold atQ at h
    rw [List.takeWhile_cons] at h
    by_cases hp : isQ p = true
    · rw [if_neg (by rw [hp]; simp)] at h; simp at h
    · have hp' : isQ p = false := by simpa using hp
      rw [if_pos (by rw [hp']; rfl), List.length_cons] at h
      match j, hj, h with
      | 0, _, _ => exact hp'
      | j + 1, hj, h => exact atQ_before (L := L) (by simpa using hj) (by unfold atQ; omega)
theorem cut_sum2 {sep : UInt8} : ∀ (f : Nat) (q : Bool) (l acc : List UInt8), ((cutF sep f q l acc).map List.length).sum + (cutF sep f q l acc).length ≤ acc.length + l.length + 1
  | f, q, [], acc => by rw [cutF_nil]; simp
  | 0, q, c :: r, acc => by unfold cutF; simp
  | f + 1, q, c :: r, acc => by
    rw [cutF_cons]
    split
    · match r with
      | [] => simp
      | d :: r2 =>
        have := cut_sum2 (sep := sep) f q r2 (acc ++ [c, d])
        simp only [List.length_append, List.length_cons, List.length_nil] at this ⊢; omega
    · split
      · have := cut_sum2 (sep := sep) f (!q) r (acc ++ [c])
        simp only [List.length_append, List.length_cons, List.length_nil] at this ⊢; omega
      · split
        · have := cut_sum2 (sep := sep) f q r []
          simp only [List.map_cons, List.sum_cons, List.length_cons, List.length_nil] at this ⊢; omega
        · have := cut_sum2 (sep := sep) f q r (acc ++ [c])
          simp only [List.length_append, List.length_cons, List.length_nil] at this ⊢; omega
theorem cut_sizes2 {c : UInt8} {l : List UInt8} (h : cutB c l = true) : (cut1 c l).length + 1 + (cut2 c l).length ≤ l.length := by
  have := congrArg List.length (cut_join h)
  rw [List.length_append, List.length_cons] at this; omega
theorem param_size2 {x : List UInt8} {p : F} (h : paramL x = some p) : p.1.size + p.2.size + 1 ≤ x.length := by
  have hlow : (lowL (cut1 61 x)).length = (cut1 61 x).length := lowL_len _
  unfold paramL at h
  split at h
  · cases h
  · rename_i hc
    have hb : cutB 61 x = true := by
      cases hh : cutB 61 x with
      | true => rfl
      | false => exact absurd (.inl hh) hc
    have hs := cut_sizes2 hb
    split at h
    · cases h; rw [bs_size, bs_size]; omega
    · cases hu : unqL (cut2 61 x) with
      | none => rw [hu] at h; cases h
      | some u => rw [hu] at h; cases h; have := (unq_facts hu).1; rw [bs_size, bs_size]; omega
theorem parF_size2 : ∀ (ps : List (List UInt8)) (acc L : List F), parF ps acc = some L → szF L + L.length + L.length ≤ szF acc + acc.length + acc.length + (ps.map List.length).sum + ps.length
  | [], acc, L, h => by unfold parF at h; cases h; simp
  | p :: ps, acc, L, h => by
    unfold parF at h
    split at h
    · have := parF_size2 ps acc L h
      simp only [List.map_cons, List.sum_cons, List.length_cons]; omega
    · cases hp : paramL (trimL p) with
      | none => rw [hp] at h; cases h
      | some f =>
        rw [hp] at h
        have g := param_size2 hp
        have ht := trim_le p
        have i := parF_size2 ps (acc ++ [f]) L h
        have e : szF (acc ++ [f]) = szF acc + (f.1.size + f.2.size) := by simp [szF]
        rw [e, List.length_append] at i
        simp only [List.map_cons, List.sum_cons, List.length_cons, List.length_nil] at i ⊢; omega
theorem par_size2 {s v : List UInt8} {L : List F} (h : parL s = some (v, L)) : v.length + szF L + 2 * L.length ≤ s.length := by
  unfold parL at h
  cases hc : cutL 59 s with
  | nil => rw [hc] at h; cases h
  | cons x ps =>
    rw [hc] at h
    simp only at h
    split at h
    · cases h
    · cases hp : parF ps [] with
      | none => rw [hp] at h; cases h
      | some K =>
        rw [hp] at h
        cases h
        have i := parF_size2 ps [] L hp
        have hsum := cut_sum2 (sep := 59) s.length false s []
        rw [show cutF 59 s.length false s [] = x :: ps from hc] at hsum
        simp only [List.map_cons, List.sum_cons, List.length_nil, List.length_cons] at hsum i
        have ht := trim_le x
        have e : szF [] = 0 := rfl
        rw [e] at i
        omega
theorem szF_take (L : List F) (n : Nat) : szF (L.take n) ≤ szF L := by
  have e : szF L = szF (L.take n) + szF (L.drop n) := by
    conv => lhs; rw [← List.take_append_drop n L]
    unfold szF; rw [List.map_append, List.sum_append]
  omega
def chkR (n : Nat) : Bool := !(lettI (n : Int) || digitI (n : Int) || n == 45) || tokI (n : Int)
theorem chkR_all : ∀ x : Fin 256, chkR x.1 = true := by decide +kernel
theorem let_tok {c : UInt8} (h : lettI c.toNat = true ∨ digitI c.toNat = true ∨ c = 45) : tokI c.toNat = true := by
  have k := chkR_all ⟨c.toNat, c.toNat_lt⟩
  unfold chkR at k
  simp only at k
  rcases h with h | h | h
  · rw [h] at k; simpa using k
  · rw [h] at k; simpa using k
  · subst h; decide
theorem sub_char : ∀ (l : List UInt8), ∀ c ∈ l, c = 45 ∨ ∃ x ∈ subL l, c ∈ x
  | d :: r, c, hc => by
    obtain ⟨y, ys, e⟩ := subL_cons r
    have ih := sub_char r
    by_cases hd : d = 45
    · subst hd
      rw [subL_hyp]
      rcases List.mem_cons.1 hc with rfl | hc
      · exact .inl rfl
      · rcases ih c hc with q | ⟨x, hx, hcx⟩
        · exact .inl q
        · exact .inr ⟨x, by simp [hx], hcx⟩
    · rw [subL_chr hd e]
      rcases List.mem_cons.1 hc with rfl | hc
      · exact .inr ⟨_, List.mem_cons_self, by simp⟩
      · rcases ih c hc with q | ⟨x, hx, hcx⟩
        · exact .inl q
        · rw [e] at hx
          rcases List.mem_cons.1 hx with rfl | hx
          · exact .inr ⟨_, List.mem_cons_self, by simp [hcx]⟩
          · exact .inr ⟨x, by simp [hx], hcx⟩
theorem subOk_char {f : Bool} {x : List UInt8} (h : subOk f x = true) : ∀ c ∈ x, lettI c.toNat = true ∨ digitI c.toNat = true := by
  unfold subOk at h
  rw [Bool.and_eq_true, List.all_eq_true] at h
  intro c hc
  have := h.2 c hc
  rw [Bool.or_eq_true, Bool.and_eq_true] at this
  rcases this with q | ⟨_, q⟩
  · exact .inl q
  · exact .inr q
theorem subs_each {L : List (List UInt8)} (h : subsOk L = true) : ∀ x ∈ L, ∃ f, subOk f x = true := by
  match L, h with
  | [], _ => intro x hx; cases hx
  | y :: ys, h =>
    have h' : (subOk true y && ys.all (subOk false)) = true := h
    rw [Bool.and_eq_true, List.all_eq_true] at h'
    intro x hx
    rcases List.mem_cons.1 hx with rfl | hx
    · exact ⟨true, h'.1⟩
    · exact ⟨false, h'.2 x hx⟩
theorem range_tok {l : List UInt8} (h : rangeT l = true) : tokL l = true := by
  unfold rangeT at h
  rw [Bool.or_eq_true, decide_eq_true_eq] at h
  rcases h with rfl | h
  · decide +kernel
  · unfold tagL at h
    refine tok_mk ?_ fun c hc => ?_
    · intro e; subst e
      have : subsOk (subL []) = false := by decide +kernel
      rw [this] at h; cases h
    · rcases sub_char l c hc with q | ⟨x, hx, hcx⟩
      · exact let_tok (.inr (.inr q))
      · obtain ⟨f, hf⟩ := subs_each h x hx
        rcases subOk_char hf c hcx with q | q
        · exact let_tok (.inl q)
        · exact let_tok (.inr (.inl q))
theorem can_tok {k : Int} {v : List UInt8} (h : tokL v = true) : tokL (canL k v) = true := by
  unfold canL
  split
  · decide +kernel
  · split
    · decide +kernel
    · exact tok_low h
theorem can_two (v : List UInt8) : canL 2 v = lowL v := by unfold canL; rw [if_neg (by omega), if_neg (by omega)]
theorem again_acc {m : List UInt8} {r : ByteArray} {q : Int} (h : memP 1 m = some (r, q)) : memP 1 (onePref (r, q)) = some (r, q) ∧ IsMem (onePref (r, q)) ∧ r.size ≤ 2 * m.length + 1 := by
  unfold memP at h
  cases hp : parL m with
  | none => rw [hp] at h; cases h
  | some y =>
    obtain ⟨v, L⟩ := y
    rw [hp] at h; simp only at h
    cases hq : qualP L with
    | none => rw [hq] at h; cases h
    | some q' =>
      rw [hq] at h; simp only at h
      rw [if_pos trivial] at h
      cases hr : rangeL v with
      | none => rw [hr] at h; cases h
      | some z =>
        obtain ⟨a, b, M⟩ := z
        rw [hr] at h
        simp only [Option.some.injEq, Prod.mk.injEq] at h
        obtain ⟨hr1, rfl⟩ := h
        obtain ⟨⟨t1, t2, t3, t4, t5⟩, _, hab, _⟩ := range_facts hr
        obtain ⟨gL, _, _, _, _⟩ := par_facts hp
        have hsz := par_size2 hp
        have qb : 0 ≤ q' ∧ q' ≤ 1000 := by
          unfold qualP at hq
          split at hq
          · exact qv_bounds hq
          · cases hq; omega
        obtain ⟨P, hP⟩ : ∃ P, L.take (atQ L) = P := ⟨_, rfl⟩
        have gP : ∀ p ∈ P, GoodP p := fun p hp => gL p (by rw [← hP] at hp; exact List.mem_of_mem_take hp)
        have nP : ∀ p ∈ P, isQ p = false := fun p hp => by
          rw [← hP] at hp
          obtain ⟨i, hi, rfl⟩ := List.getElem_of_mem hp
          rw [List.length_take] at hi
          rw [List.getElem_take]
          exact atQ_before (by omega) (by omega)
        rw [hP] at hr1
        have hrl : r.data.toList = fmtPL (a.data.toList ++ 47 :: b.data.toList) P := by
          rw [← hr1]
          show fmtPL (a ++ (⟨#[47]⟩ : ByteArray) ++ b).data.toList P = _
          congr 1
          simp [ByteArray.data_append]
        have ht := one_with hrl qb.1 qb.2
        have hpar := par_back2 (media_piece t1 t2) (media_trim t1 t2) (by simp) (with_good gP qb.1 qb.2)
        have hrv : rangeL (a.data.toList ++ 47 :: b.data.toList) = some (a, b, []) := by
          have h0 := par_back2 (L := []) (media_piece t1 t2) (media_trim t1 t2) (by simp) (fun p hp => by cases hp)
          have e0 : fmtPL (a.data.toList ++ 47 :: b.data.toList) [] = a.data.toList ++ 47 :: b.data.toList := by unfold fmtPL; simp
          rw [e0] at h0
          unfold rangeL
          rw [h0]; simp only
          rw [type_back t1 t2 t3 t4 t5]
        refine ⟨?_, ?_, ?_⟩
        · rw [ht, mem_acc hpar (with_qual nP qb.1 qb.2), hrv, with_at nP, with_take]
          show some (fmtPB (a ++ (⟨#[47]⟩ : ByteArray) ++ b) P, q') = _
          rw [hr1]
        · rw [ht]
          refine fmt_mem (fun q hq => ?_) (by simp) (fun r c r' h => ?_) ?_ (with_good gP qb.1 qb.2)
          · rw [List.append_assoc, List.cons_append]
            exact pc_tok t1 (Piece.cons (by decide) (by decide) (pc_tok t2 hq))
          · rw [List.append_assoc] at h; exact first_ok t1 c r' h
          · have e : a.data.toList ++ 47 :: b.data.toList = (a.data.toList ++ [47]) ++ b.data.toList := by simp
            rw [e]; exact last_app13 (tok_ne t2) (last_tok t2)
        · have hl := fmt_len (a.data.toList ++ 47 :: b.data.toList) P
          have hz : r.data.toList.length = r.size := by simp
          have za : a.data.toList.length = a.size := by simp
          have zb : b.data.toList.length = b.size := by simp
          have h1 : szF P ≤ szF L := by rw [← hP]; exact szF_take _ _
          have h2 : P.length ≤ L.length := by rw [← hP, List.length_take]; omega
          rw [← hrl, hz, List.length_append, List.length_cons] at hl
          omega
theorem again_oth {k : Int} {m : List UInt8} {r : ByteArray} {q : Int} (hk1 : k ≠ 1) (h : memP k m = some (r, q)) : memP k (onePref (r, q)) = some (r, q) ∧ IsMem (onePref (r, q)) ∧ r.size ≤ 2 * m.length + 1 := by
  cases hp : parL m with
  | none => rw [mem_none hp] at h; cases h
  | some y =>
    obtain ⟨v, L⟩ := y
    cases hq : qualP L with
    | none => rw [mem_noq hp hq] at h; cases h
    | some q' =>
      rw [mem_oth hk1 hp hq] at h
      by_cases ht : ((if k = 2 then rangeT v else tokL v) && decide (atQ L = 0)) = true
      · rw [if_pos ht] at h
        cases h
        rw [Bool.and_eq_true, decide_eq_true_eq] at ht
        have hsz := par_size2 hp
        have qb : 0 ≤ q ∧ q ≤ 1000 := by
          unfold qualP at hq
          split at hq
          · exact qv_bounds hq
          · cases hq; omega
        have hv : tokL v = true := by
          by_cases h2 : k = 2
          · rw [if_pos h2] at ht; exact range_tok ht.1
          · rw [if_neg h2] at ht; exact ht.1
        have hr := can_tok (k := k) hv
        have hone := one_with (r := bs (canL k v)) (v := canL k v) (P := []) (q := q) (by rw [bs_toList]; unfold fmtPL; simp) qb.1 qb.2
        have gP := with_good (P := []) (q := q) (fun p hp => by cases hp) qb.1 qb.2
        have nP : ∀ p ∈ ([] : List F), isQ p = false := fun p hp => by cases hp
        have hpar := par_back2 (v := canL k v) (by have := Piece.tok hr (Piece.nil 59); rwa [List.append_nil] at this) (by have := trim_tok (v := canL k v) (a := []) (b := []) hr (by simp) (by simp); rwa [List.nil_append, List.append_nil] at this) (tok_ne hr) gP
        refine ⟨?_, ?_, ?_⟩
        · rw [hone, mem_oth hk1 hpar (with_qual nP qb.1 qb.2), with_at nP]
          have hc : (if k = 2 then rangeT (canL k v) else tokL (canL k v)) = true := by
            by_cases h2 : k = 2
            · rw [if_pos h2]; rw [if_pos h2] at ht; subst h2; rw [can_two, range_low]; exact ht.1
            · rw [if_neg h2]; exact hr
          rw [hc, if_pos (by simp), can_can]
        · rw [hone]
          exact fmt_mem (fun q hq => pc_tok hr hq) (tok_ne hr) (fun r c r' h => first_ok hr c r' h) (last_tok hr) gP
        · have := can_len k v
          rw [bs_size]; omega
      · rw [if_neg ht] at h; cases h
theorem again {k : Int} {m : List UInt8} {p : QP} (h : memP k m = some p) : memP k (onePref p) = some p ∧ IsMem (onePref p) ∧ p.1.size ≤ 2 * m.length + 1 := by
  obtain ⟨r, q⟩ := p
  by_cases h1 : k = 1
  · subst h1; exact again_acc h
  · exact again_oth h1 h
end
section
theorem blank_text15 {c : UInt8} (h : blankB c = true) : textI c.toNat = true := by
  unfold blankB blankI at h
  unfold textI
  simp only [Bool.or_eq_true, beq_iff_eq] at h
  simp only [Bool.or_eq_true, beq_iff_eq, decide_eq_true_eq]
  rcases h with h | h
  · exact .inl (.inr ⟨by omega, by omega⟩)
  · exact .inl (.inl h)
theorem text_app {a b : List UInt8} (h1 : textL a = true) (h2 : textL b = true) : textL (a ++ b) = true :=
  text_mk fun c hc => by
    rcases List.mem_append.1 hc with q | q
    · exact text_byte h1 c q
    · exact text_byte h2 c q
theorem text_trim15 {l : List UInt8} (h : textL (trimL l) = true) : textL l = true := by
  obtain ⟨a, b, e, ha, hb, _⟩ := trim_split l
  refine text_mk fun c hc => ?_
  rw [e] at hc
  rcases List.mem_append.1 hc with q | q
  · exact blank_text15 (ha c q)
  · rcases List.mem_append.1 q with q | q
    · exact text_byte h c q
    · exact blank_text15 (hb c q)
theorem unq_text {l u : List UInt8} (h : unqL l = some u) : textL l = true := by
  obtain ⟨m, rfl, hm, _⟩ := unq_parts h
  refine text_mk fun c hc => ?_
  rcases List.mem_cons.1 hc with rfl | hc
  · decide
  · rcases List.mem_append.1 hc with q | q
    · exact text_byte hm c q
    · rw [List.mem_singleton.1 q]; decide
theorem cut_join15 {c : UInt8} {l : List UInt8} (h : cutB c l = true) : l = cut1 c l ++ c :: cut2 c l := by
  unfold cutB at h
  have hm := List.contains_iff_mem.1 h
  unfold cut1 cut2
  conv => lhs; rw [← List.takeWhile_append_dropWhile (p := (· != c)) (l := l)]
  congr 1
  cases hd : l.dropWhile (· != c) with
  | nil =>
    have e := List.takeWhile_append_dropWhile (p := (· != c)) (l := l)
    rw [hd, List.append_nil] at e
    have hm2 : c ∈ l.takeWhile (· != c) := by rw [e]; exact hm
    have := (List.all_eq_true.1 (List.all_takeWhile (p := (· != c)) (l := l))) c hm2
    simp at this
  | cons d r =>
    have := List.head?_dropWhile_not (· != c) l
    rw [hd] at this
    have e : d = c := by simpa using this
    rw [e]; rfl
theorem param_text {x : List UInt8} {p : F} (h : paramL x = some p) : textL x = true := by
  unfold paramL at h
  split at h
  · cases h
  · rename_i hc
    have hB : cutB 61 x = true := by
      cases hh : cutB 61 x with
      | true => rfl
      | false => exact absurd (.inl hh) hc
    have hT : tokL (cut1 61 x) = true := by
      cases hh : tokL (cut1 61 x) with
      | true => rfl
      | false => exact absurd (.inr hh) hc
    have h2 : textL (cut2 61 x) = true := by
      split at h
      · rename_i hv; exact tok_text hv
      · cases hu : unqL (cut2 61 x) with
        | none => rw [hu] at h; cases h
        | some u => exact unq_text hu
    rw [cut_join15 hB]
    refine text_app (tok_text hT) (text_mk fun c hc => ?_)
    rcases List.mem_cons.1 hc with rfl | hc
    · decide
    · exact text_byte h2 c hc
theorem parF_text : ∀ (ps : List (List UInt8)) (acc L : List F), parF ps acc = some L → ∀ p ∈ ps, textL p = true
  | [], acc, L, _, p, hp => by simp at hp
  | q :: ps, acc, L, h, p, hp => by
    unfold parF at h
    split at h
    · rename_i ht
      rcases List.mem_cons.1 hp with rfl | hp
      · exact text_trim15 (by rw [ht]; rfl)
      · exact parF_text ps acc L h p hp
    · cases hq : paramL (trimL q) with
      | none => rw [hq] at h; cases h
      | some f =>
        rw [hq] at h
        rcases List.mem_cons.1 hp with rfl | hp
        · exact text_trim15 (param_text hq)
        · exact parF_text ps _ L h p hp
theorem cut_chars {sep : UInt8} : ∀ (f : Nat) (q : Bool) (l acc : List UInt8), l.length ≤ f → ∀ c ∈ acc ++ l, c = sep ∨ ∃ p ∈ cutF sep f q l acc, c ∈ p
  | f, q, [], acc, _, c, hc => .inr ⟨acc, by rw [cutF_nil]; simp, by simpa using hc⟩
  | 0, q, d :: r, acc, h, c, hc => by simp at h
  | f + 1, q, d :: r, acc, h, c, hc => by
    simp only [List.length_cons] at h
    rw [cutF_cons]
    split
    · match r, h, hc with
      | [], h, hc => exact .inr ⟨acc ++ [d], by simp, hc⟩
      | e :: r2, h, hc =>
        simp only [List.length_cons] at h
        exact cut_chars f q r2 (acc ++ [d, e]) (by omega) c (by simpa using hc)
    · split
      · exact cut_chars f (!q) r (acc ++ [d]) (by omega) c (by simpa using hc)
      · split
        · rename_i hs
          rcases List.mem_append.1 hc with hq | hq
          · exact .inr ⟨acc, by simp, hq⟩
          · rcases List.mem_cons.1 hq with rfl | hq
            · exact .inl hs.1
            · rcases cut_chars f q r [] (by omega) c (by simpa using hq) with g | ⟨p, g1, g2⟩
              · exact .inl g
              · exact .inr ⟨p, by simp [g1], g2⟩
        · exact cut_chars f q r (acc ++ [d]) (by omega) c (by simpa using hc)
theorem media_text {s : List UInt8} {m : M} (h : mediaL s = some m) : textL s = true := by
  unfold mediaL at h
  cases hr : rangeL s with
  | none => rw [hr] at h; cases h
  | some t =>
    unfold rangeL at hr
    cases hp : parL s with
    | none => rw [hp] at hr; cases hr
    | some vL =>
      obtain ⟨v, L⟩ := vL
      rw [hp] at hr
      simp only at hr
      cases ht : typeL v with
      | none => rw [ht] at hr; cases hr
      | some ab =>
        unfold parL at hp
        cases hc : cutL 59 s with
        | nil => rw [hc] at hp; cases hp
        | cons x ps =>
          rw [hc] at hp
          simp only at hp
          split at hp
          · cases hp
          · cases hf : parF ps [] with
            | none => rw [hf] at hp; cases hp
            | some K =>
              rw [hf] at hp
              simp only [Option.some.injEq, Prod.mk.injEq] at hp
              obtain ⟨rfl, rfl⟩ := hp
              have hx : textL x = true := by
                refine text_trim15 ?_
                unfold typeL at ht
                split at ht
                · cases ht
                · rename_i h1
                  split at ht
                  · cases ht
                  · rename_i h2
                    split at ht
                    · cases ht
                    · rename_i h3
                      have hB : cutB 47 (trimL x) = true := by simpa using h1
                      rw [cut_join15 hB]
                      refine text_app (tok_text (by simpa using h2)) (text_mk fun c hc => ?_)
                      rcases List.mem_cons.1 hc with rfl | hc
                      · decide
                      · exact text_byte (tok_text (by simpa using h3)) c hc
              have hps := parF_text ps [] K hf
              refine text_mk fun c hcs => ?_
              rcases cut_chars (sep := 59) s.length false s [] (Nat.le_refl _) c (by simpa using hcs) with rfl | ⟨p, hp1, hp2⟩
              · decide
              · rw [show cutF 59 s.length false s [] = x :: ps from hc] at hp1
                rcases List.mem_cons.1 hp1 with rfl | hp1
                · exact text_byte hx c hp2
                · exact text_byte (hps p hp1) c hp2
theorem value_text {n x : ByteArray} (h : valueV n x = true) : textL x.data.toList = true := by
  unfold valueV at h
  split at h
  · rw [Bool.and_eq_true] at h
    obtain ⟨m, hm⟩ := Option.isSome_iff_exists.1 h.1
    exact media_text hm
  · split at h
    · exact tok_text (range_tok (by unfold rangeT; rw [h, Bool.or_true]))
    · split at h
      · rw [Bool.and_eq_true] at h; exact tok_text h.1
      · rw [Bool.and_eq_true, Bool.and_eq_true] at h; exact h.1.2
theorem word_ne (v : List UInt8) : wordW v ≠ [] := by
  unfold wordW
  split
  · rename_i h
    rw [Bool.and_eq_true] at h
    intro e; subst e
    simp [visL] at h
  · unfold quoteL; simp
theorem word_read {v : List UInt8} (h : textL v = true) : readV (wordW v) = some v := by
  unfold wordW
  split
  · rename_i hv
    rw [Bool.and_eq_true] at hv
    unfold readV; rw [if_pos hv.2]
  · have := unq_quote_text h
    unfold quoteL at this ⊢
    rw [read_quo]; exact this
theorem word_piece {sep : UInt8} (hs : plainC sep = false) {v p : List UInt8} (hp : Piece sep p) : Piece sep (wordW v ++ p) := by
  unfold wordW
  split
  · rename_i hv
    rw [Bool.and_eq_true, List.all_eq_true] at hv
    refine Piece.plain (fun c hc => ⟨(plain_ne (hv.2 c hc)).1, fun e => ?_⟩) hp
    have := hv.2 c hc
    rw [e, hs] at this; cases this
  · exact Piece.quote sep v hp
theorem cut_words : ∀ (V : List (List UInt8)) (x : List UInt8), cutL 32 (joinW (x :: V)) = wordW x :: V.map wordW
  | [], x => by
    have := word_piece (sep := 32) rfl (v := x) (Piece.nil 32)
    rw [List.append_nil] at this
    show cutL 32 (wordW x ++ []) = _
    rw [List.append_nil, cut_piece this]; rfl
  | y :: V, x => by
    have h1 := word_piece (sep := 32) rfl (v := x) (Piece.nil 32)
    rw [List.append_nil] at h1
    have e : joinW (x :: y :: V) = wordW x ++ 32 :: joinW (y :: V) := by
      show wordW x ++ (y :: V).flatMap _ = _
      rw [List.flatMap_cons]; rfl
    rw [e, cut_pieces (by decide) _ h1, cut_words V y]; rfl
theorem valid_parts15 {x : AX} (h : validA x = true) : tokL x.1.data.toList = true ∧ lowL x.1.data.toList = x.1.data.toList ∧ 1 ≤ x.2.length ∧ x.2.length ≤ 16 ∧ ∀ v ∈ x.2, textL v.data.toList = true := by
  unfold validA headV at h
  simp only [Bool.and_eq_true, decide_eq_true_eq] at h
  obtain ⟨⟨⟨⟨h1, h2⟩, h3⟩, h4⟩, h5⟩ := h
  refine ⟨h1, h2, h3, h4, fun v hv => ?_⟩
  obtain ⟨i, hi, rfl⟩ := List.mem_iff_getElem.1 hv
  unfold valsV at h5
  have := List.all_eq_true.1 h5 i (List.mem_range.2 hi)
  rw [Bool.and_eq_true, atS_is hi] at this
  exact value_text this.1
theorem join_piece : ∀ (V : List (List UInt8)) {p : List UInt8}, Piece 44 p → Piece 44 (joinW V ++ p)
  | [], p, h => h
  | x :: V, p, h => by
    show Piece 44 ((wordW x ++ V.flatMap fun y => 32 :: wordW y) ++ p)
    rw [List.append_assoc]
    refine word_piece rfl ?_
    have : ∀ (V : List (List UInt8)), Piece 44 ((V.flatMap fun y => 32 :: wordW y) ++ p) := by
      intro V
      induction V with
      | nil => exact h
      | cons y V ih =>
        rw [List.flatMap_cons, List.append_assoc, List.cons_append]
        exact Piece.cons (by decide) (by decide) (word_piece rfl ih)
    exact this V
theorem keep_fit {L : List AX} (hk : keepA L = true) : L.length ≤ 6 ∧ (∀ i (hi : i < L.length), fitA L[i]) := by
  obtain ⟨hl, hp⟩ := keepA_parts hk
  exact ⟨hl, fun i hi => by obtain ⟨a1, a2, a3⟩ := hp i hi; exact ⟨by omega, by omega, fun v hv => by have := a3 v hv; omega⟩⟩
end
section
abbrev KY := List ByteArray
def uniV (x : AX) : Prop := ∀ v : ByteArray, ∀ i j : Nat, i < j → j < x.2.length → sameV x.1 v (atS x.2 i) = true → sameV x.1 v (atS x.2 j) = false
theorem valid_uni {x : AX} (h : validA x = true) : uniV x := by
  intro v i j hij hj hi
  unfold validA at h
  rw [Bool.and_eq_true] at h
  unfold valsV at h
  have h1 := List.all_eq_true.1 h.2 j (List.mem_range.2 hj)
  rw [Bool.and_eq_true] at h1
  have h2 := List.all_eq_true.1 h1.2 i (List.mem_range.2 hij)
  cases hv : sameV x.1 v (atS x.2 j) with
  | false => rfl
  | true =>
    have h3 : sameV x.1 (atS x.2 j) v = true := by rw [sameV_symm]; exact hv
    rw [sameV_trans h3 hi] at h2
    cases h2
theorem validX_at {L : List AX} (h : validX L = true) (i : Nat) (hi : i < L.length) : validA L[i] = true := by
  unfold validX at h
  rw [Bool.and_eq_true] at h
  unfold axesV at h
  have h1 := List.all_eq_true.1 h.2 i (List.mem_range.2 hi)
  rw [Bool.and_eq_true, atA_is hi] at h1
  exact h1.1
theorem validX_len {L : List AX} (h : validX L = true) : 1 ≤ L.length ∧ L.length ≤ 4 := by
  unfold validX at h
  simp only [Bool.and_eq_true, decide_eq_true_eq] at h
  exact h.1
def smallK (L : List KY) : Prop := ∀ k ∈ L, k.length ≤ 65000 ∧ ∀ v ∈ k, v.size ≤ 65000
end
section
def idenL : List UInt8 := [105, 100, 101, 110, 116, 105, 116, 121]
def qual0 (k : Int) (v : List UInt8) : Int := if k = 4 ∧ foldL v idenL = true then 1 else 0
def stepQ14 (k : Int) (v : List UInt8) (st : Int × Int) (p : ByteArray × Int) : Int × Int := if st.1 < matchP k p.1.data.toList v then (matchP k p.1.data.toList v, p.2) else st
def bestQ (k : Int) (v : List UInt8) (L : List (ByteArray × Int)) (st : Int × Int) : Int × Int := L.foldl (stepQ14 k v) st
def qualR (k : Int) (L : List (ByteArray × Int)) (present : Bool) (v : List UInt8) : Int := if present = true then (bestQ k v L (-1, qual0 k v)).2 else 1000
theorem best_next {k : Int} {v : List UInt8} {L : List (ByteArray × Int)} {st : Int × Int} {j : Nat} (h : j < L.length) : bestQ k v (L.take (j + 1)) st = stepQ14 k v (bestQ k v (L.take j) st) L[j] := by
  unfold bestQ
  rw [List.take_succ_eq_append_getElem h, List.foldl_append]; rfl
section
variable (q : ByteArray → Int)
def insR (x : ByteArray) : List ByteArray → List ByteArray
  | [] => [x]
  | y :: ys => if q y < q x then x :: y :: ys else y :: insR x ys
def stepR (acc : List ByteArray) (v : ByteArray) : List ByteArray := if 0 < q v then insR q v acc else acc
def rankQ (V : List ByteArray) : List ByteArray := V.foldl (stepR q) []
def DescR : List ByteArray → Prop
  | [] => True
  | y :: ys => (∀ z ∈ ys, q z ≤ q y) ∧ DescR ys
/-- the place of a value: the better ones, and the equally good ones ahead of it -/
def aheadR (V : List ByteArray) (i k : Nat) : Bool := decide (q (V.getD i ⟨#[]⟩) < q (V.getD k ⟨#[]⟩)) || (decide (q (V.getD k ⟨#[]⟩) = q (V.getD i ⟨#[]⟩)) && decide (k < i))
def atR (V : List ByteArray) (i : Nat) : Nat := (List.range V.length).countP fun k => aheadR q V i k
end
variable {q : ByteArray → Int}
theorem ins_mem {x z : ByteArray} : ∀ {l : List ByteArray}, z ∈ insR q x l → z = x ∨ z ∈ l
  | [], h => by simp [insR] at h; exact .inl h
  | y :: ys, h => by
    unfold insR at h
    split at h
    · rcases List.mem_cons.1 h with h | h
      · exact .inl h
      · exact .inr h
    · rcases List.mem_cons.1 h with h | h
      · exact .inr (by simp [h])
      · rcases ins_mem h with h | h
        · exact .inl h
        · exact .inr (by simp [h])
theorem ins_desc {x : ByteArray} : ∀ {l : List ByteArray}, DescR q l → DescR q (insR q x l)
  | [], _ => ⟨fun z hz => (by cases hz), trivial⟩
  | y :: ys, h => by
    unfold insR
    split
    · rename_i hlt
      refine ⟨fun z hz => ?_, h⟩
      rcases List.mem_cons.1 hz with rfl | hz
      · omega
      · have := h.1 z hz; omega
    · rename_i hge
      refine ⟨fun z hz => ?_, ins_desc h.2⟩
      rcases ins_mem hz with rfl | hz
      · omega
      · exact h.1 z hz
/-- how many of a list come ahead of x -/
def aheadN (q : ByteArray → Int) (x : ByteArray) (l : List ByteArray) : Nat := l.countP fun y => decide (q x ≤ q y)
theorem ins_at {x : ByteArray} : ∀ {l : List ByteArray}, DescR q l → ∀ j, (insR q x l)[j]? = if j < aheadN q x l then l[j]? else if j = aheadN q x l then some x else l[j - 1]?
  | [], _, j => by
    unfold insR aheadN
    match j with
    | 0 => rfl
    | j + 1 => simp
  | y :: ys, h, j => by
    unfold insR
    by_cases hlt : q y < q x
    · have hz : aheadN q x (y :: ys) = 0 := by
        unfold aheadN
        rw [List.countP_eq_zero]
        intro z hz
        rcases List.mem_cons.1 hz with rfl | hz
        · simp; omega
        · have := h.1 z hz; simp; omega
      rw [if_pos hlt, hz, if_neg (by omega)]
      match j with
      | 0 => rfl
      | j + 1 => rw [if_neg (by omega)]; rfl
    · have hz : aheadN q x (y :: ys) = aheadN q x ys + 1 := by
        unfold aheadN
        rw [List.countP_cons, if_pos (by simp; omega)]
      rw [if_neg hlt, hz]
      match j with
      | 0 => rw [if_pos (by omega)]; rfl
      | j + 1 =>
        rw [List.getElem?_cons_succ, ins_at h.2 j]
        by_cases h1 : j < aheadN q x ys
        · rw [if_pos h1, if_pos (show j + 1 < aheadN q x ys + 1 by omega)]; rfl
        · rw [if_neg h1, if_neg (show ¬ j + 1 < aheadN q x ys + 1 by omega)]
          by_cases h2 : j = aheadN q x ys
          · rw [if_pos h2, if_pos (show j + 1 = aheadN q x ys + 1 by omega)]
          · rw [if_neg h2, if_neg (show ¬ j + 1 = aheadN q x ys + 1 by omega)]
            obtain ⟨m, rfl⟩ : ∃ m, j = m + 1 := ⟨j - 1, by omega⟩
            rfl
/-- in a list in order: the values ahead are those at the front -/
theorem ahead_front {x : ByteArray} : ∀ {l : List ByteArray}, DescR q l → ∀ j (hj : j < l.length), j < aheadN q x l ↔ q x ≤ q l[j]
  | y :: ys, h, j, hj => by
    by_cases hlt : q y < q x
    · have hz : aheadN q x (y :: ys) = 0 := by
        unfold aheadN
        rw [List.countP_eq_zero]
        intro z hz
        rcases List.mem_cons.1 hz with rfl | hz
        · simp; omega
        · have := h.1 z hz; simp; omega
      rw [hz]
      have hle : q (y :: ys)[j] ≤ q y := by
        match j, hj with
        | 0, _ => exact Int.le_refl _
        | j + 1, hj => exact h.1 _ (List.getElem_mem _)
      constructor
      · omega
      · omega
    · have hz : aheadN q x (y :: ys) = aheadN q x ys + 1 := by
        unfold aheadN
        rw [List.countP_cons, if_pos (by simp; omega)]
      rw [hz]
      match j, hj with
      | 0, _ => exact ⟨fun _ => by show q x ≤ q y; omega, fun _ => by omega⟩
      | j + 1, hj =>
        have ih := ahead_front (x := x) h.2 j (by simpa using hj)
        constructor
        · intro hh; exact ih.1 (by omega)
        · intro hh; have := ih.2 hh; omega
theorem rank_snoc (W : List ByteArray) (x : ByteArray) : rankQ q (W ++ [x]) = stepR q (rankQ q W) x := by unfold rankQ; rw [List.foldl_append]; rfl
theorem ins_count {p : ByteArray → Bool} {x : ByteArray} : ∀ (l : List ByteArray), (insR q x l).countP p = l.countP p + (if p x = true then 1 else 0)
  | [] => by unfold insR; rw [List.countP_cons, List.countP_nil]
  | y :: ys => by
    unfold insR
    split
    · rw [List.countP_cons]
    · rw [List.countP_cons, List.countP_cons, ins_count ys]; omega
theorem getD_snoc {W : List ByteArray} {x : ByteArray} {k : Nat} (h : k < W.length) : (W ++ [x]).getD k ⟨#[]⟩ = W.getD k ⟨#[]⟩ := by
  rw [List.getD_eq_getElem?_getD, List.getD_eq_getElem?_getD, List.getElem?_append_left h]
theorem getD_last {W : List ByteArray} {x : ByteArray} : (W ++ [x]).getD W.length ⟨#[]⟩ = x := by
  rw [List.getD_eq_getElem?_getD, List.getElem?_append_right (Nat.le_refl _)]; simp
theorem at_snoc {W : List ByteArray} {x : ByteArray} {i : Nat} (h : i < W.length) : atR q (W ++ [x]) i = atR q W i + (if q (W.getD i ⟨#[]⟩) < q x then 1 else 0) := by
  unfold atR
  have hl : (W ++ [x]).length = W.length + 1 := by simp
  rw [hl, List.range_succ, List.countP_append]
  congr 1
  · apply List.countP_congr
    intro k hk
    have hk2 : k < W.length := by simpa using hk
    unfold aheadR
    rw [getD_snoc h, getD_snoc hk2]
  · rw [List.countP_cons, List.countP_nil]
    have e : aheadR q (W ++ [x]) i W.length = decide (q (W.getD i ⟨#[]⟩) < q x) := by
      unfold aheadR
      rw [getD_snoc h, getD_last, decide_eq_false (by omega : ¬ W.length < i), Bool.and_false, Bool.or_false]
    rw [e]
    simp
theorem at_last {W : List ByteArray} {x : ByteArray} : atR q (W ++ [x]) W.length = W.countP fun y => decide (q x ≤ q y) := by
  unfold atR
  have hl : (W ++ [x]).length = W.length + 1 := by simp
  rw [hl, List.range_succ, List.countP_append, List.countP_cons, List.countP_nil]
  have e0 : aheadR q (W ++ [x]) W.length W.length = false := by
    unfold aheadR; rw [getD_last, decide_eq_false (by omega), decide_eq_false (by omega : ¬ W.length < W.length)]; simp
  rw [e0]
  simp only [Bool.false_eq_true, if_false, Nat.add_zero]
  have key : ∀ (n : Nat), n ≤ W.length → (List.range n).countP (fun k => aheadR q (W ++ [x]) W.length k) = (W.take n).countP fun y => decide (q x ≤ q y) := by
    intro n
    induction n with
    | zero => intro _; rfl
    | succ n ih =>
      intro hn
      rw [List.range_succ, List.countP_append, ih (by omega), List.take_succ_eq_append_getElem (by omega), List.countP_append]
      congr 1
      rw [List.countP_cons, List.countP_nil, List.countP_cons, List.countP_nil]
      have e : aheadR q (W ++ [x]) W.length n = decide (q x ≤ q (W[n]'(by omega))) := by
        unfold aheadR
        rw [getD_last, getD_snoc (by omega), List.getD_eq_getElem?_getD, List.getElem?_eq_getElem (by omega : n < W.length), decide_eq_true (by omega : n < W.length), Bool.and_true]
        simp only [Option.getD_some]
        by_cases h1 : q x < q (W[n]'(by omega))
        · rw [decide_eq_true h1, Bool.true_or, decide_eq_true (Int.le_of_lt h1)]
        · rw [decide_eq_false h1, Bool.false_or]
          apply decide_eq_decide.2; omega
      rw [e]
  rw [key W.length (Nat.le_refl _), List.take_length]
theorem rank_all : ∀ (n : Nat) (V : List ByteArray), V.length = n → DescR q (rankQ q V) ∧ (∀ p : ByteArray → Bool, (rankQ q V).countP p = V.countP fun y => p y && decide (0 < q y)) ∧ ∀ i (hi : i < V.length), 0 < q V[i] → (rankQ q V)[atR q V i]? = some V[i]
  | 0, V, h => by
    have : V = [] := List.length_eq_zero_iff.1 h
    subst this
    exact ⟨trivial, fun p => rfl, fun i hi => by simp at hi⟩
  | n + 1, V, h => by
    obtain ⟨W, x, rfl⟩ : ∃ W x, V = W ++ [x] := by
      have hne : V ≠ [] := by intro e; subst e; simp at h
      exact ⟨V.dropLast, V.getLast hne, (List.dropLast_concat_getLast hne).symm⟩
    have hW : W.length = n := by simpa using h
    obtain ⟨i1, i2, i3⟩ := rank_all n W hW
    rw [rank_snoc]
    unfold stepR
    by_cases hx : 0 < q x
    · rw [if_pos hx]
      refine ⟨ins_desc i1, fun p => ?_, fun i hi hqi => ?_⟩
      · rw [ins_count, i2 p, List.countP_append, List.countP_cons, List.countP_nil]
        simp [hx]
      · have hn : aheadN q x (rankQ q W) = W.countP fun y => decide (q x ≤ q y) := by
          unfold aheadN
          rw [i2]
          apply List.countP_congr
          intro y _
          simp only [Bool.and_eq_true, decide_eq_true_eq]
          omega
        by_cases hil : i < W.length
        · have hVi : (W ++ [x])[i] = W[i] := List.getElem_append_left hil
          rw [hVi] at hqi ⊢
          have ih := i3 i hil hqi
          have hg : W.getD i ⟨#[]⟩ = W[i] := by rw [List.getD_eq_getElem?_getD, List.getElem?_eq_getElem hil]; rfl
          rw [at_snoc hil, hg, ins_at i1]
          have hlt : atR q W i < (rankQ q W).length := by
            rcases Nat.lt_or_ge (atR q W i) (rankQ q W).length with h | h
            · exact h
            · rw [List.getElem?_eq_none h] at ih; cases ih
          have hel : (rankQ q W)[atR q W i] = W[i] := by rw [List.getElem?_eq_getElem hlt] at ih; exact Option.some.inj ih
          have hf := ahead_front (x := x) i1 _ hlt
          rw [hel] at hf
          by_cases hxi : q W[i] < q x
          · rw [if_pos hxi]
            have hge : ¬ atR q W i < aheadN q x (rankQ q W) := fun h => by have := hf.1 h; omega
            rw [if_neg (by omega), if_neg (by omega), Nat.add_sub_cancel]; exact ih
          · rw [if_neg hxi, Nat.add_zero, if_pos (hf.2 (by omega))]; exact ih
        · have hie : i = W.length := by simp at hi; omega
          subst hie
          have hVi : (W ++ [x])[W.length] = x := by simp
          rw [hVi, at_last, ← hn, ins_at i1, if_neg (by omega), if_pos rfl]
    · rw [if_neg hx]
      refine ⟨i1, fun p => ?_, fun i hi hqi => ?_⟩
      · rw [i2 p, List.countP_append, List.countP_cons, List.countP_nil]
        simp [hx]
      · by_cases hil : i < W.length
        · have hVi : (W ++ [x])[i] = W[i] := List.getElem_append_left hil
          rw [hVi] at hqi ⊢
          have hg : W.getD i ⟨#[]⟩ = W[i] := by rw [List.getD_eq_getElem?_getD, List.getElem?_eq_getElem hil]; rfl
          rw [at_snoc hil, hg, if_neg (by omega), Nat.add_zero]
          exact i3 i hil hqi
        · have hie : i = W.length := by simp at hi; omega
          subst hie
          have hVi : (W ++ [x])[W.length] = x := by simp
          rw [hVi] at hqi; exact absurd hqi hx
theorem rank_len (V : List ByteArray) : (rankQ q V).length = V.countP fun y => decide (0 < q y) := by
  have := (rank_all (q := q) V.length V rfl).2.1 (fun _ => true)
  simpa using this
end
section
/-- what a request with the fields L says of an axis -/
def qlS (x : AX) (L : List F) : ByteArray → Int := fun v => qualR (kindN x.1) (prefsV (kindN x.1) L) (prefsO (kindN x.1) L) v.data.toList
def accS (x : AX) (L : List F) : List ByteArray := if kindN x.1 = 0 then x.2.filter (fun v => decide (v = joinB (allB x.1 L))) else rankQ (qlS x L) x.2
/-- 17.1 -/
def rankS (x : AX) (L : List F) (strict : Bool) : List ByteArray :=
  if validA x = false then [] else if accS x L = [] ∧ strict = false then [atS x.2 0] else accS x L
/-- the keys out of one value of each list, in their order -/
def prodK : List (List ByteArray) → List KY
  | [] => [[]]
  | r :: R => r.flatMap fun v => (prodK R).map (v :: ·)
def rowsS (X : List AX) (L : List F) (strict : Bool) : List (List ByteArray) := X.map fun x => rankS x L strict
/-- 17.2 -/
def keysS (X : List AX) (L : List F) (strict : Bool) : List KY := if validX X = false then [] else (prodK (rowsS X L strict)).take 64
theorem rankQ_mem {q : ByteArray → Int} {z : ByteArray} : ∀ {V : List ByteArray}, z ∈ rankQ q V → z ∈ V ∧ 0 < q z := by
  intro V h
  have key : ∀ (n : Nat) (V : List ByteArray), V.length = n → z ∈ rankQ q V → z ∈ V ∧ 0 < q z := by
    intro n
    induction n with
    | zero =>
      intro V hV h
      obtain rfl := List.length_eq_zero_iff.1 hV
      cases h
    | succ n ih =>
      intro V hV h
      obtain ⟨W, x, rfl⟩ : ∃ W x, V = W ++ [x] := by
        have hne : V ≠ [] := by intro e; subst e; simp at hV
        exact ⟨V.dropLast, V.getLast hne, (List.dropLast_concat_getLast hne).symm⟩
      have hW : W.length = n := by simpa using hV
      rw [rank_snoc] at h
      unfold stepR at h
      split at h
      · rename_i hx
        rcases ins_mem h with rfl | h
        · exact ⟨by simp, hx⟩
        · obtain ⟨h1, h2⟩ := ih W hW h
          exact ⟨by simp [h1], h2⟩
      · obtain ⟨h1, h2⟩ := ih W hW h
        exact ⟨by simp [h1], h2⟩
  exact key _ V rfl h
theorem acc_mem {x : AX} {L : List F} {z : ByteArray} (h : z ∈ accS x L) : z ∈ x.2 := by
  unfold accS at h
  split at h
  · exact (List.mem_filter.1 h).1
  · exact (rankQ_mem h).1
theorem acc_len (x : AX) (L : List F) : (accS x L).length ≤ x.2.length := by
  unfold accS
  split
  · exact List.length_filter_le _ _
  · rw [rank_len]; exact List.countP_le_length
theorem validA_len {x : AX} (h : validA x = true) : 1 ≤ x.2.length ∧ x.2.length ≤ 16 := by
  unfold validA headV at h
  simp only [Bool.and_eq_true, decide_eq_true_eq] at h
  omega
theorem rankS_mem {x : AX} {L : List F} {st : Bool} {z : ByteArray} (h : z ∈ rankS x L st) : z ∈ x.2 := by
  unfold rankS at h
  split at h
  · cases h
  · rename_i hv
    have hv2 : validA x = true := by cases e : validA x with
      | true => rfl
      | false => exact absurd e hv
    split at h
    · rw [List.mem_singleton.1 h, atS_is (by have := (validA_len hv2).1; omega)]
      exact List.getElem_mem _
    · exact acc_mem h
theorem rankS_len (x : AX) (L : List F) (st : Bool) : (rankS x L st).length ≤ 16 := by
  unfold rankS
  split
  · exact Nat.zero_le _
  · rename_i hv
    have hv2 : validA x = true := by cases e : validA x with
      | true => rfl
      | false => exact absurd e hv
    split
    · show 1 ≤ 16; omega
    · have := acc_len x L; have := validA_len hv2; omega
theorem rankS_bad {x : AX} {L : List F} {st : Bool} (h : validA x = false) : rankS x L st = [] := by unfold rankS; rw [if_pos h]
theorem rankS_dflt {x : AX} {L : List F} (h : validA x = true) (h2 : accS x L = []) : rankS x L false = [atS x.2 0] := by
  unfold rankS; rw [if_neg (by rw [h]; simp), if_pos ⟨h2, rfl⟩]
theorem rankS_acc {x : AX} {L : List F} {st : Bool} (h : validA x = true) (h2 : accS x L ≠ [] ∨ st = true) : rankS x L st = accS x L := by
  unfold rankS; rw [if_neg (by rw [h]; simp), if_neg (fun hh => by rcases h2 with q | q; exact q hh.1; rw [q] at hh; cases hh.2)]
theorem valid_ne {x : AX} (h : validA x = true) {i j : Nat} (hij : i < j) (hj : j < x.2.length) : x.2[i]'(by omega) ≠ x.2[j] := by
  intro e
  have hu := valid_uni h (atS x.2 i) i j hij hj (sameV_refl _ _)
  rw [atS_is hj, ← e, atS_is (by omega : i < x.2.length), sameV_refl] at hu
  cases hu
def hasS (V : List ByteArray) (j : ByteArray) : Bool := V.any fun v => decide (v = j)
theorem hasS_iff {V : List ByteArray} {j : ByteArray} : hasS V j = true ↔ j ∈ V := by
  unfold hasS
  rw [List.any_eq_true]
  exact ⟨fun ⟨v, h, e⟩ => by have := of_decide_eq_true e; subst this; exact h, fun h => ⟨j, h, decide_eq_true rfl⟩⟩
theorem filter_one {V : List ByteArray} {j : ByteArray} (hd : ∀ i k (hik : i < k) (hk : k < V.length), V[i]'(by omega) ≠ V[k]) : V.filter (fun v => decide (v = j)) = if hasS V j = true then [j] else [] := by
  induction V with
  | nil => rfl
  | cons v V ih =>
    have ih' := ih (fun i k hik hk => by have := hd (i + 1) (k + 1) (by omega) (by simp; omega); simpa using this)
    by_cases hv : v = j
    · subst hv
      have hno : v ∉ V := by
        intro hm
        obtain ⟨i, hi, e⟩ := List.getElem_of_mem hm
        exact hd 0 (i + 1) (by omega) (by simp; omega) (by simp [e])
      rw [List.filter_cons, if_pos (by simp), ih', if_neg (fun h => hno (hasS_iff.1 h)), if_pos (hasS_iff.2 (by simp))]
    · rw [List.filter_cons, if_neg (by simp [hv]), ih']
      have : hasS (v :: V) j = hasS V j := by
        unfold hasS
        rw [List.any_cons, decide_eq_false hv, Bool.false_or]
      rw [this]
theorem acc_other {x : AX} {L : List F} (h : validA x = true) (hk : kindN x.1 = 0) : accS x L = if hasS x.2 (joinB (allB x.1 L)) = true then [joinB (allB x.1 L)] else [] := by
  unfold accS
  rw [if_pos hk]
  exact filter_one (fun i k hik hk2 => valid_ne h hik hk2)
def numK : List (List ByteArray) → Nat
  | [] => 1
  | r :: R => r.length * numK R
theorem flat_len17 {α β : Type} (n : Nat) (f : α → List β) (hf : ∀ v, (f v).length = n) : ∀ (r : List α), (r.flatMap f).length = r.length * n
  | [] => by simp
  | v :: r => by rw [List.flatMap_cons, List.length_append, hf, flat_len17 n f hf r, List.length_cons, Nat.succ_mul]; omega
theorem prodK_len : ∀ (R : List (List ByteArray)), (prodK R).length = numK R
  | [] => rfl
  | r :: R => by
    show (r.flatMap fun v => (prodK R).map (v :: ·)).length = r.length * numK R
    exact flat_len17 _ _ (fun v => by rw [List.length_map, prodK_len R]) r
theorem prodK_mem : ∀ (R : List (List ByteArray)) (k : KY), k ∈ prodK R → k.length = R.length ∧ ∀ i (h : i < R.length) (h2 : i < k.length), k[i] ∈ R[i]
  | [], k, h => by
    have : k = [] := by simpa [prodK] using h
    subst this
    exact ⟨rfl, fun i h => absurd h (by simp)⟩
  | r :: R, k, h => by
    obtain ⟨v, hv, hk⟩ := List.mem_flatMap.1 h
    obtain ⟨t, ht, rfl⟩ := List.mem_map.1 hk
    obtain ⟨h1, h2⟩ := prodK_mem R t ht
    refine ⟨by simp [h1], fun i hi hi2 => ?_⟩
    cases i with
    | zero => exact hv
    | succ i => exact h2 i (by simpa using hi) (by simpa using hi2)
theorem prodK_empty : ∀ (R : List (List ByteArray)), [] ∈ R → prodK R = []
  | r :: R, h => by
    rcases List.mem_cons.1 h with rfl | h
    · rfl
    · show (r.flatMap fun v => (prodK R).map (v :: ·)) = []
      rw [prodK_empty R h]
      simp
def keyD : List (List ByteArray) → List Nat → KY
  | r :: R, d :: D => atS r d :: keyD R D
  | _, _ => []
def valD : List (List ByteArray) → List Nat → Nat
  | r :: R, d :: D => d * numK R + valD R D
  | _, _ => 0
def inD : List (List ByteArray) → List Nat → Prop
  | [], [] => True
  | r :: R, d :: D => d < r.length ∧ inD R D
  | _, _ => False
def incD : List (List ByteArray) → List Nat → Bool × List Nat
  | r :: R, d :: D => if (incD R D).1 = true then (true, d :: (incD R D).2) else if d + 1 < r.length then (true, (d + 1) :: (incD R D).2) else (false, 0 :: (incD R D).2)
  | _, _ => (false, [])
theorem inD_len : ∀ {R : List (List ByteArray)} {D : List Nat}, inD R D → D.length = R.length
  | [], [], _ => rfl
  | r :: R, d :: D, h => by simp [inD_len h.2]
  | [], d :: D, h => h.elim
  | r :: R, [], h => h.elim
theorem inD_at : ∀ {R : List (List ByteArray)} {D : List Nat}, inD R D → ∀ i (h : i < R.length) (h2 : i < D.length), D[i] < R[i].length
  | r :: R, d :: D, h, i, h1, h2 => by
    cases i with
    | zero => exact h.1
    | succ i => exact inD_at h.2 i (by simpa using h1) (by simpa using h2)
  | [], [], h, i, h1, h2 => absurd h1 (by simp)
  | [], d :: D, h, _, _, _ => h.elim
  | r :: R, [], h, _, _, _ => h.elim
theorem inD_zero : ∀ (R : List (List ByteArray)), (∀ r ∈ R, r ≠ []) → inD R (List.replicate R.length 0) ∧ valD R (List.replicate R.length 0) = 0
  | [], _ => ⟨trivial, rfl⟩
  | r :: R, h => by
    obtain ⟨h1, h2⟩ := inD_zero R (fun s hs => h s (by simp [hs]))
    rw [List.length_cons, List.replicate_succ]
    exact ⟨⟨List.length_pos_iff.2 (h r (by simp)), h1⟩, by show 0 * numK R + valD R _ = 0; rw [h2]; omega⟩
theorem valD_lt : ∀ {R : List (List ByteArray)} {D : List Nat}, inD R D → valD R D < numK R
  | [], [], _ => Nat.one_pos
  | r :: R, d :: D, h => by
    have ih := valD_lt h.2
    show d * numK R + valD R D < r.length * numK R
    have h1 : (d + 1) * numK R ≤ r.length * numK R := Nat.mul_le_mul_right _ h.1
    rw [Nat.succ_mul] at h1
    omega
  | [], d :: D, h => h.elim
  | r :: R, [], h => h.elim
theorem flat_at {α β : Type} (n : Nat) (f : α → List β) (hf : ∀ v, (f v).length = n) : ∀ (r : List α) (d t : Nat) (hd : d < r.length), t < n → (r.flatMap f)[d * n + t]? = (f r[d])[t]?
  | v :: r, 0, t, hd, ht => by
    rw [List.flatMap_cons, List.getElem?_append_left (by rw [hf]; omega), Nat.zero_mul, Nat.zero_add]; rfl
  | v :: r, d + 1, t, hd, ht => by
    rw [List.flatMap_cons, List.getElem?_append_right (by rw [hf, Nat.succ_mul]; omega), hf]
    rw [show (d + 1) * n + t - n = d * n + t from by rw [Nat.succ_mul]; omega]
    exact flat_at n f hf r d t (by simpa using hd) ht
theorem prodK_at : ∀ {R : List (List ByteArray)} {D : List Nat}, inD R D → (prodK R)[valD R D]? = some (keyD R D)
  | [], [], _ => rfl
  | r :: R, d :: D, h => by
    have ih := prodK_at h.2
    show (r.flatMap fun v => (prodK R).map (v :: ·))[d * numK R + valD R D]? = some (atS r d :: keyD R D)
    rw [flat_at (numK R) _ (fun v => by rw [List.length_map, prodK_len]) r d _ h.1 (valD_lt h.2), List.getElem?_map, ih, atS_is h.1]
    rfl
  | [], d :: D, h => h.elim
  | r :: R, [], h => h.elim
theorem incD_go : ∀ (R : List (List ByteArray)) (D : List Nat), inD R D → ¬ (incD R D).1 = true → inD R (incD R D).2 ∧ valD R (incD R D).2 = 0 ∧ valD R D + 1 = numK R
  | [], [], _, _ => ⟨trivial, rfl, rfl⟩
  | r :: R, d :: D, h, h1 => by
    unfold incD at h1 ⊢
    by_cases hm : (incD R D).1 = true
    · rw [if_pos hm] at h1; exact absurd rfl h1
    · rw [if_neg hm] at h1 ⊢
      by_cases hd : d + 1 < r.length
      · rw [if_pos hd] at h1; exact absurd rfl h1
      · rw [if_neg hd]
        obtain ⟨i1, i2, i3⟩ := incD_go R D h.2 hm
        have hr : d + 1 = r.length := by have := h.1; omega
        refine ⟨⟨by show 0 < r.length; omega, i1⟩, ?_, ?_⟩
        · show 0 * numK R + valD R (incD R D).2 = 0
          rw [i2]; omega
        · show d * numK R + valD R D + 1 = r.length * numK R
          rw [← hr, Nat.succ_mul]; omega
  | [], d :: D, h, _ => h.elim
  | r :: R, [], h, _ => h.elim
theorem incD_some : ∀ {R : List (List ByteArray)} {D : List Nat}, inD R D → (incD R D).1 = true → inD R (incD R D).2 ∧ valD R (incD R D).2 = valD R D + 1
  | [], [], _, h => by cases h
  | r :: R, d :: D, h, h1 => by
    unfold incD at h1 ⊢
    by_cases hm : (incD R D).1 = true
    · rw [if_pos hm]
      obtain ⟨i1, i2⟩ := incD_some h.2 hm
      refine ⟨⟨h.1, i1⟩, ?_⟩
      show d * numK R + valD R (incD R D).2 = d * numK R + valD R D + 1
      rw [i2]; omega
    · rw [if_neg hm] at h1 ⊢
      by_cases hd : d + 1 < r.length
      · rw [if_pos hd]
        obtain ⟨i1, i2, i3⟩ := incD_go R D h.2 hm
        refine ⟨⟨hd, i1⟩, ?_⟩
        show (d + 1) * numK R + valD R (incD R D).2 = d * numK R + valD R D + 1
        rw [i2, Nat.succ_mul]; omega
      · rw [if_neg hd] at h1; cases h1
  | [], d :: D, h, _ => h.elim
  | r :: R, [], h, _ => h.elim
theorem incD_none {R : List (List ByteArray)} {D : List Nat} (h : inD R D) (h1 : (incD R D).1 = false) : valD R D + 1 = numK R := (incD_go R D h (by rw [h1]; simp)).2.2
/-- the last digits have run over: the others -/
theorem incD_over : ∀ {R : List (List ByteArray)} {D : List Nat}, D.length = R.length → (incD R D).1 = false → (incD R D).2 = List.replicate R.length 0
  | [], [], _, _ => rfl
  | r :: R, d :: D, hl, h1 => by
    unfold incD at h1 ⊢
    by_cases hm : (incD R D).1 = true
    · rw [if_pos hm] at h1; cases h1
    · rw [if_neg hm] at h1 ⊢
      by_cases hd : d + 1 < r.length
      · rw [if_pos hd] at h1; cases h1
      · rw [if_neg hd, incD_over (by simpa using hl) (by simpa using hm)]; rfl
  | [], d :: D, hl, _ => by simp at hl
  | r :: R, [], hl, _ => by simp at hl
theorem incD_up : ∀ (p : Nat) {R : List (List ByteArray)} {D E : List Nat}, D.length = R.length → p ≤ D.length → incD (R.drop p) (D.drop p) = (true, E) → incD R D = (true, D.take p ++ E)
  | 0, R, D, E, _, _, h => by simpa using h
  | p + 1, r :: R, d :: D, E, hl, hp, h => by
    have ih := incD_up p (R := R) (D := D) (E := E) (by simpa using hl) (by simpa using hp) h
    unfold incD
    rw [ih, if_pos rfl]; rfl
  | p + 1, [], [], E, _, hp, _ => by simp at hp
  | p + 1, [], d :: D, E, hl, _, _ => by simp at hl
  | p + 1, r :: R, [], E, hl, _, _ => by simp at hl
theorem incD_at {R : List (List ByteArray)} {D : List Nat} {p : Nat} (hl : D.length = R.length) (hp : p < R.length) (h : (incD (R.drop (p + 1)) (D.drop (p + 1))).1 = false) :
    incD (R.drop p) (D.drop p) = if D[p] + 1 < R[p].length then (true, (D[p] + 1) :: List.replicate (R.length - (p + 1)) 0) else (false, 0 :: List.replicate (R.length - (p + 1)) 0) := by
  rw [List.drop_eq_getElem_cons hp, List.drop_eq_getElem_cons (by omega : p < D.length)]
  have h2 := incD_over (R := R.drop (p + 1)) (D := D.drop (p + 1)) (by simp; omega) h
  rw [List.length_drop] at h2
  conv => lhs; unfold incD
  rw [h2, if_neg (by rw [h]; simp)]
end
section
section
variable {q : ByteArray → Int}
theorem ins_filter {x : ByteArray} {p : Int} : ∀ {l : List ByteArray}, DescR q l → (insR q x l).filter (fun v => decide (q v = p)) = l.filter (fun v => decide (q v = p)) ++ (if q x = p then [x] else [])
  | [], _ => by
    unfold insR
    rw [List.filter_cons]
    by_cases h : q x = p
    · rw [if_pos (decide_eq_true h), if_pos h]; rfl
    · rw [if_neg (by simp [h]), if_neg h]; rfl
  | y :: ys, hd => by
    unfold insR
    by_cases hlt : q y < q x
    · rw [if_pos hlt]
      by_cases h : q x = p
      · have hno : (y :: ys).filter (fun v => decide (q v = p)) = [] := by
          rw [List.filter_eq_nil_iff]
          intro z hz
          rcases List.mem_cons.1 hz with rfl | hz
          · simp; omega
          · have := hd.1 z hz; simp; omega
        rw [List.filter_cons, if_pos (decide_eq_true h), hno, if_pos h]; rfl
      · rw [List.filter_cons (x := x), if_neg (c := decide (q x = p) = true) (by simp [h]), if_neg h, List.append_nil]
    · rw [if_neg hlt, List.filter_cons, List.filter_cons, ins_filter hd.2]
      by_cases hy : q y = p
      · rw [if_pos (decide_eq_true hy), if_pos (decide_eq_true hy)]; rfl
      · rw [if_neg (c := decide (q y = p) = true) (by simp [hy]), if_neg (c := decide (q y = p) = true) (by simp [hy])]
/-- the values of one level stand in their order -/
theorem rank_level {p : Int} (hp : 0 < p) : ∀ (n : Nat) (V : List ByteArray), V.length = n → (rankQ q V).filter (fun v => decide (q v = p)) = V.filter (fun v => decide (q v = p))
  | 0, V, hV => by
    obtain rfl := List.length_eq_zero_iff.1 hV
    rfl
  | n + 1, V, hV => by
    obtain ⟨W, x, rfl⟩ : ∃ W x, V = W ++ [x] := by
      have hne : V ≠ [] := by intro e; subst e; simp at hV
      exact ⟨V.dropLast, V.getLast hne, (List.dropLast_concat_getLast hne).symm⟩
    have hW : W.length = n := by simpa using hV
    have ih := rank_level hp n W hW
    have hd := (rank_all (q := q) n W hW).1
    rw [rank_snoc, List.filter_append, List.filter_cons, List.filter_nil]
    unfold stepR
    by_cases hx : 0 < q x
    · rw [if_pos hx, ins_filter hd, ih]
      by_cases h : q x = p
      · rw [if_pos h, if_pos (decide_eq_true h)]
      · rw [if_neg h, if_neg (by simp [h])]
    · rw [if_neg hx, ih, if_neg (by simp; omega), List.append_nil]
def topS (S : List ByteArray) (q : ByteArray → Int) (t : Int) : List ByteArray := S.filter fun v => decide (t ≤ q v)
theorem top_none {S : List ByteArray} {t : Int} (h : ∀ z ∈ S, q z < t) : topS S q t = [] := by
  unfold topS
  rw [List.filter_eq_nil_iff]
  intro z hz; have := h z hz; simp; omega
theorem top_all {S : List ByteArray} {t : Int} (h : ∀ z ∈ S, t ≤ q z) : topS S q t = S := by
  unfold topS
  rw [List.filter_eq_self]
  intro z hz; simp [h z hz]
/-- the next level -/
theorem top_next {t p : Int} (hpt : p < t) : ∀ {S : List ByteArray}, DescR q S → (∀ z ∈ S, q z < t → q z ≤ p) → topS S q p = topS S q t ++ S.filter (fun v => decide (q v = p))
  | [], _, _ => rfl
  | y :: S, hd, hn => by
    have ih := top_next hpt hd.2 (fun z hz => hn z (by simp [hz]))
    have hny := hn y (by simp)
    unfold topS at ih ⊢
    rw [List.filter_cons, List.filter_cons (p := fun v => decide (t ≤ q v)), List.filter_cons (p := fun v => decide (q v = p))]
    by_cases h1 : t ≤ q y
    · rw [if_pos (by simp; omega), if_pos (by simp [h1]), if_neg (by simp; omega), ih]; rfl
    · have h0 : S.filter (fun v => decide (t ≤ q v)) = [] := by
        rw [List.filter_eq_nil_iff]
        intro z hz; have := hd.1 z hz; simp; omega
      rw [h0, List.nil_append] at ih
      rw [if_neg (c := decide (t ≤ q y) = true) (by simp; omega), h0, List.nil_append]
      by_cases h2 : q y = p
      · rw [if_pos (by simp; omega), if_pos (by simp [h2]), ih]
      · rw [if_neg (by simp; omega), if_neg (by simp [h2]), ih]
theorem top_first {p : Int} {S : List ByteArray} (hd : DescR q S) (h : ∀ z ∈ S, q z ≤ p) : topS S q p = S.filter (fun v => decide (q v = p)) := by
  have := top_next (q := q) (t := p + 1) (p := p) (by omega) hd (fun z hz _ => h z hz)
  rw [this, top_none (fun z hz => by have := h z hz; omega)]; rfl
def stepN (q : ByteArray → Int) (b : Bool) (last n : Int) (v : ByteArray) : Int := if b = true ∨ q v < last then max n (q v) else n
def nextN (q : ByteArray → Int) (b : Bool) (last : Int) (V : List ByteArray) : Int := V.foldl (stepN q b last) 0
theorem nextN_more {b : Bool} {last : Int} {V : List ByteArray} {i : Nat} (h : i < V.length) : nextN q b last (V.take (i + 1)) = stepN q b last (nextN q b last (V.take i)) V[i] := by
  unfold nextN
  rw [List.take_succ_eq_append_getElem h, List.foldl_append]; rfl
theorem fold_ge {b : Bool} {last : Int} : ∀ (V : List ByteArray) (n : Int), n ≤ V.foldl (stepN q b last) n ∧ (∀ v ∈ V, (b = true ∨ q v < last) → q v ≤ V.foldl (stepN q b last) n) ∧ (V.foldl (stepN q b last) n = n ∨ ∃ v ∈ V, (b = true ∨ q v < last) ∧ q v = V.foldl (stepN q b last) n)
  | [], n => ⟨Int.le_refl _, fun v hv => (by cases hv), .inl rfl⟩
  | y :: V, n => by
    obtain ⟨i1, i2, i3⟩ := fold_ge (b := b) (last := last) V (stepN q b last n y)
    rw [List.foldl_cons]
    by_cases h : b = true ∨ q y < last
    · have e : stepN q b last n y = max n (q y) := by unfold stepN; rw [if_pos h]
      rw [e] at i1 i2 i3 ⊢
      refine ⟨by omega, fun v hv hv2 => ?_, ?_⟩
      · rcases List.mem_cons.1 hv with rfl | hv
        · omega
        · exact i2 v hv hv2
      · rcases i3 with i3 | ⟨v, h1, h2, h3⟩
        · by_cases hm : q y ≤ n
          · left; rw [i3]; omega
          · right; exact ⟨y, by simp, h, by rw [i3]; omega⟩
        · right; exact ⟨v, by simp [h1], h2, h3⟩
    · have e : stepN q b last n y = n := by unfold stepN; rw [if_neg h]
      rw [e] at i1 i2 i3 ⊢
      refine ⟨i1, fun v hv hv2 => ?_, ?_⟩
      · rcases List.mem_cons.1 hv with rfl | hv
        · exact absurd hv2 h
        · exact i2 v hv hv2
      · rcases i3 with i3 | ⟨v, h1, h2, h3⟩
        · exact .inl i3
        · exact .inr ⟨v, by simp [h1], h2, h3⟩
def lastQ (q : ByteArray → Int) (out : List ByteArray) : Int := if 0 < out.length then q (atS out (out.length - 1)) else 0
def emptyB (out : List ByteArray) : Bool := decide (out.length = 0)
def nextQ (q : ByteArray → Int) (out V : List ByteArray) : Int := nextN q (emptyB out) (lastQ q out) V
/-- the levels so far -/
def InvQ (q : ByteArray → Int) (V out : List ByteArray) : Prop := out = [] ∨ (0 < out.length ∧ 0 < lastQ q out ∧ out = topS (rankQ q V) q (lastQ q out))
theorem desc_rank (V : List ByteArray) : DescR q (rankQ q V) := (rank_all V.length V rfl).1
theorem inv_none {V out : List ByteArray} (h : InvQ q V out) (hn : nextQ q out V ≤ 0) : out = rankQ q V := by
  obtain ⟨_, i2, _⟩ := fold_ge (q := q) (b := emptyB out) (last := lastQ q out) V 0
  have i2' : ∀ v ∈ V, (emptyB out = true ∨ q v < lastQ q out) → q v ≤ 0 := fun v hv hc => by
    have h1 := i2 v hv hc
    have h2 : nextQ q out V = V.foldl (stepN q (emptyB out) (lastQ q out)) 0 := rfl
    omega
  rcases h with rfl | ⟨h1, h2, h3⟩
  · symm
    rw [List.eq_nil_iff_forall_not_mem]
    intro z hz
    obtain ⟨h1, h2⟩ := rankQ_mem hz
    have := i2' z h1 (.inl rfl)
    omega
  · rw [h3, top_all]
    intro z hz
    obtain ⟨h4, h5⟩ := rankQ_mem hz
    rcases Int.lt_or_le (q z) (lastQ q out) with g | g
    · have := i2' z h4 (.inr g); omega
    · exact g
theorem inv_full {V out : List ByteArray} (h : InvQ q V out) (hl : ¬ out.length < V.length) : out = rankQ q V := by
  rcases h with rfl | ⟨h1, h2, h3⟩
  · have : V = [] := by cases V with
      | nil => rfl
      | cons v V => exact absurd (by simp) hl
    rw [this]; rfl
  · have h4 : (rankQ q V).length ≤ V.length := by rw [rank_len]; exact List.countP_le_length
    have h5 : out.length ≤ (rankQ q V).length := by rw [h3]; exact List.length_filter_le _ _
    have h6 : ((rankQ q V).filter fun v => decide (lastQ q out ≤ q v)).length = (rankQ q V).length := by
      have h7 : out.length = ((rankQ q V).filter fun v => decide (lastQ q out ≤ q v)).length := congrArg List.length h3
      omega
    rw [h3]
    unfold topS
    rw [List.filter_eq_self]
    intro z hz
    exact List.length_filter_eq_length_iff.1 h6 z hz
theorem inv_step {V out : List ByteArray} (h : InvQ q V out) (hn : 0 < nextQ q out V) : InvQ q V (out ++ V.filter fun v => decide (q v = nextQ q out V)) ∧ 0 < (V.filter fun v => decide (q v = nextQ q out V)).length := by
  obtain ⟨i1, i2, i3⟩ := fold_ge (q := q) (b := emptyB out) (last := lastQ q out) V 0
  obtain ⟨p, hp⟩ : ∃ p, nextQ q out V = p := ⟨_, rfl⟩
  have e : V.foldl (stepN q (emptyB out) (lastQ q out)) 0 = p := hp
  rw [e] at i1 i2 i3
  rw [hp] at hn ⊢
  obtain ⟨y, hy, hc, hq⟩ : ∃ v ∈ V, (emptyB out = true ∨ q v < lastQ q out) ∧ q v = p := by
    rcases i3 with i3 | i3
    · omega
    · exact i3
  have hmem : y ∈ V.filter fun v => decide (q v = p) := List.mem_filter.2 ⟨hy, by simp [hq]⟩
  have hpos : 0 < (V.filter fun v => decide (q v = p)).length := List.length_pos_iff.2 (fun h0 => by rw [h0] at hmem; cases hmem)
  refine ⟨.inr ?_, hpos⟩
  have hl : lastQ q (out ++ V.filter fun v => decide (q v = p)) = p := by
    unfold lastQ
    rw [if_pos (by rw [List.length_append]; omega), atS_is (by rw [List.length_append]; omega), List.getElem_append_right (by rw [List.length_append]; omega)]
    have hm2 := List.getElem_mem (l := V.filter fun v => decide (q v = p)) (n := (out ++ V.filter fun v => decide (q v = p)).length - 1 - out.length) (by rw [List.length_append]; omega)
    have := (List.mem_filter.1 hm2).2
    simpa using this
  rw [hl]
  refine ⟨by rw [List.length_append]; omega, hn, ?_⟩
  have hlev := rank_level (q := q) hn V.length V rfl
  rcases h with rfl | ⟨h1, h2, h3⟩
  · rw [top_first (desc_rank V) (fun z hz => i2 z (rankQ_mem hz).1 (.inl rfl)), hlev]; rfl
  · have hpl : p < lastQ q out := by
      rcases hc with hc | hc
      · unfold emptyB at hc; have := of_decide_eq_true hc; omega
      · omega
    rw [top_next hpl (desc_rank V) (fun z hz hz2 => i2 z (rankQ_mem hz).1 (.inr hz2)), hlev, ← h3]
end
end
section
theorem validX_mem {X : List AX} (hv : validX X = true) {x : AX} (hx : x ∈ X) : validA x = true := by
  obtain ⟨i, hi, rfl⟩ := List.getElem_of_mem hx
  exact validX_at hv i hi
theorem kind_fold {n : ByteArray} (h : kindN n ≠ 0) : foldL n.data.toList (nameK (kindN n)).data.toList = true := by
  unfold kindN at h ⊢
  split
  · rename_i h1; exact h1
  · split
    · rename_i h1; exact h1
    · split
      · rename_i h1; exact h1
      · split
        · rename_i h1; exact h1
        · rename_i h1 h2 h3 h4
          rw [if_neg h1, if_neg h2, if_neg h3, if_neg h4] at h
          exact absurd rfl h
theorem fold_self (a : List UInt8) : foldL a a = true := by unfold foldL; exact decide_eq_true rfl
end
section
/-- each axis with its ranked values -/
def rankX (X : List AX) (L : List F) (st : Bool) : List AX := X.map fun x => (x.1, rankS x L st)
/-- 18.1 -/
def classS (X : List AX) (L : List F) (st : Bool) : ByteArray := if validX X = true then axesB (rankX X L st) else ⟨#[]⟩
def sameC (X : List AX) (L M : List F) (st : Bool) : Bool := validX X && decide (classS X L st = classS X M st)
theorem axis_mem18 {x : AX} (h1 : tokL x.1.data.toList = true) : IsMem (axisL x) := by
  have hP : Piece 44 (axisL x) := by
    unfold axisL writL
    refine pc_tok h1 (Piece.cons (by decide) (by decide) (Piece.cons (by decide) (by decide) (join_piece _ (Piece.cons (by decide) (by decide) (Piece.nil 44)))))
  refine ⟨by unfold axisL; simp, ?_, cut_piece hP, hP.2⟩
  have := trim_char [] (axisL x) [] (by simp) (by simp) (fun c r e => first_ok h1 c r e) (fun c r e => by
    have e2 : axisL x = (x.1.data.toList ++ 61 :: 40 :: joinW (x.2.map fun v => v.data.toList)) ++ [41] := by unfold axisL writL; simp
    rw [e2] at e
    have := (List.append_inj' e rfl).2
    have : c = 41 := by simpa using this.symm
    rw [this]; decide)
  simpa using this
theorem word_inj {a b : List UInt8} (ha : textL a = true) (hb : textL b = true) (h : wordW a = wordW b) : a = b := by
  have h1 := word_read ha
  rw [h, word_read hb] at h1
  exact (Option.some.inj h1).symm
theorem words_inj : ∀ {A B : List (List UInt8)}, (∀ v ∈ A, textL v = true) → (∀ v ∈ B, textL v = true) → A.map wordW = B.map wordW → A = B
  | [], [], _, _, _ => rfl
  | a :: A, b :: B, ha, hb, h => by
    rw [List.map_cons, List.map_cons] at h
    injection h with h1 h2
    rw [word_inj (ha a (by simp)) (hb b (by simp)) h1, words_inj (fun v hv => ha v (by simp [hv])) (fun v hv => hb v (by simp [hv])) h2]
  | [], b :: B, _, _, h => by simp at h
  | a :: A, [], _, _, h => by simp at h
theorem join_ne (v : List UInt8) (V : List (List UInt8)) : joinW (v :: V) ≠ [] := by
  show wordW v ++ V.flatMap _ ≠ []
  intro e
  exact word_ne v (List.append_eq_nil_iff.1 e).1
theorem join_inj18 : ∀ {A B : List (List UInt8)}, (∀ v ∈ A, textL v = true) → (∀ v ∈ B, textL v = true) → joinW A = joinW B → A = B
  | [], [], _, _, _ => rfl
  | a :: A, b :: B, ha, hb, h => by
    have h1 := cut_words A a
    rw [h, cut_words B b] at h1
    have h2 : (b :: B).map wordW = (a :: A).map wordW := by rw [List.map_cons, List.map_cons]; exact h1
    exact words_inj ha hb h2.symm
  | [], b :: B, _, _, h => absurd h.symm (join_ne b B)
  | a :: A, [], _, _, h => absurd h (join_ne a A)
theorem bytes_inj : ∀ {A B : List ByteArray}, A.map (fun v => v.data.toList) = B.map (fun v => v.data.toList) → A = B
  | [], [], _ => rfl
  | a :: A, b :: B, h => by
    rw [List.map_cons, List.map_cons] at h
    injection h with h1 h2
    rw [bytes_inj h2]
    congr 1
    cases a; cases b
    simp only at h1
    congr 1
    exact Array.toList_inj.1 h1
  | [], b :: B, h => by simp at h
  | a :: A, [], h => by simp at h
theorem axisL_inj {n : ByteArray} {V W : List ByteArray} (hV : ∀ v ∈ V, textL v.data.toList = true) (hW : ∀ v ∈ W, textL v.data.toList = true) (h : axisL (n, V) = axisL (n, W)) : V = W := by
  unfold axisL at h
  have h1 := List.append_cancel_left h
  injection h1 with _ h2
  unfold writL at h2
  injection h2 with _ h3
  have h4 := List.append_cancel_right h3
  exact bytes_inj (join_inj18 (fun v hv => by obtain ⟨y, hy, rfl⟩ := List.mem_map.1 hv; exact hV y hy) (fun v hv => by obtain ⟨y, hy, rfl⟩ := List.mem_map.1 hv; exact hW y hy) h4)
theorem axesB_mems {A : List AX} (h : ∀ x ∈ A, tokL x.1.data.toList = true) : memL (cutL 44 (axesB A).data.toList) = A.map axisL := by
  have hxl : (axesB A).data.toList = joinC (A.map axisL) := by
    unfold axesB joinB
    rw [bs_toList, List.map_map]
    rfl
  rw [hxl]
  refine join_mem _ fun m hm => ?_
  obtain ⟨y, hy, rfl⟩ := List.mem_map.1 hm
  exact axis_mem18 (h y hy)
theorem axes_inj {A B : List AX} (hA : ∀ x ∈ A, tokL x.1.data.toList = true) (hB : ∀ x ∈ B, tokL x.1.data.toList = true) (h : axesB A = axesB B) : A.map axisL = B.map axisL := by
  rw [← axesB_mems hA, ← axesB_mems hB, h]
/-- one class: the same ranked values -/
theorem class_rows {X : List AX} {L M : List F} {st : Bool} (hv : validX X = true) (h : classS X L st = classS X M st) : rowsS X L st = rowsS X M st := by
  unfold classS at h
  rw [if_pos hv, if_pos hv] at h
  have ht : ∀ (N : List F), ∀ x ∈ rankX X N st, tokL x.1.data.toList = true := fun N x hx => by
    obtain ⟨y, hy, rfl⟩ := List.mem_map.1 hx
    exact (valid_parts15 (validX_mem hv hy)).1
  have hm := axes_inj (ht L) (ht M) h
  unfold rowsS
  refine List.map_congr_left (fun x hx => ?_)
  unfold rankX at hm
  rw [List.map_map, List.map_map] at hm
  have hx2 := List.map_inj_left.1 hm x hx
  have htx := (valid_parts15 (validX_mem hv hx)).2.2.2.2
  exact axisL_inj (n := x.1) (fun v hv => htx v (rankS_mem hv)) (fun v hv => htx v (rankS_mem hv)) hx2
theorem same_keys {X : List AX} {L M : List F} {st : Bool} (h : sameC X L M st = true) : validX X = true ∧ keysS X L st = keysS X M st := by
  unfold sameC at h
  rw [Bool.and_eq_true, decide_eq_true_eq] at h
  refine ⟨h.1, ?_⟩
  unfold keysS
  rw [class_rows h.1 h.2]
theorem same_rows {X : List AX} {L M : List F} {st : Bool} (hv : validX X = true) (h : ∀ x ∈ X, accS x L = accS x M) : sameC X L M st = true := by
  have hr : rankX X L st = rankX X M st := by
    unfold rankX
    refine List.map_congr_left (fun x hx => ?_)
    unfold rankS
    rw [h x hx]
  unfold sameC classS
  rw [hv, hr]
  simp
end
section
theorem ins_congr {q p : ByteArray → Int} {x : ByteArray} (hx : q x = p x) : ∀ {l : List ByteArray}, (∀ y ∈ l, q y = p y) → insR q x l = insR p x l
  | [], _ => rfl
  | y :: ys, h => by
    unfold insR
    rw [h y (by simp), hx, ins_congr hx (fun z hz => h z (by simp [hz]))]
theorem rankQ_congr {q p : ByteArray → Int} : ∀ (n : Nat) (V : List ByteArray), V.length = n → (∀ v ∈ V, q v = p v) → rankQ q V = rankQ p V
  | 0, V, hV, _ => by
    obtain rfl := List.length_eq_zero_iff.1 hV
    rfl
  | n + 1, V, hV, h => by
    obtain ⟨W, x, rfl⟩ : ∃ W x, V = W ++ [x] := by
      have hne : V ≠ [] := by intro e; subst e; simp at hV
      exact ⟨V.dropLast, V.getLast hne, (List.dropLast_concat_getLast hne).symm⟩
    have hW : W.length = n := by simpa using hV
    have hw : ∀ v ∈ W, q v = p v := fun v hv => h v (by simp [hv])
    have hx : q x = p x := h x (by simp)
    rw [rank_snoc, rank_snoc, rankQ_congr n W hW hw]
    unfold stepR
    rw [hx, ins_congr hx (fun y hy => hw y (rankQ_mem hy).1)]
/-- alike in what they say of the values -/
theorem acc_congr {x : AX} {L M : List F} (h0 : kindN x.1 = 0 → allL x.1 L = allL x.1 M) (h : kindN x.1 ≠ 0 → ∀ v ∈ x.2, qlS x L v = qlS x M v) : accS x L = accS x M := by
  unfold accS
  split
  · rename_i hk
    have : allB x.1 L = allB x.1 M := by unfold allB; rw [h0 hk]
    rw [this]
  · rename_i hk
    exact rankQ_congr _ _ rfl (h hk)
end
end Go.Proofs.YtklfpkaemnhdhaaGreatDoor.Asc
